import PyProof.Rows.All
import Wide.All
import OpenK.AllK
import Wide.FinOn
import Lean
import PyProof.EqAt
import PyProof.EqKinds
import PyProof.TupleCall
-- CHANGE: your row's module here, as the last of these rows
import PySem.Challenge.RW_landroll_k01_no_floor_no_cells
set_option Elab.async false
set_option linter.all false
set_option maxRecDepth 100000
/-! THE HAND LAYER, for ints, bools, texts, own classes, LISTS and tuples (index, slices, in, append, pop ..), calls, loops. Paste it whole ahead of your own text; what your proof does not reach may be deleted. -/
namespace L2
open PySem PySem.Spec PyProof.Rows

/-- a key: an int or a str -/
noncomputable abbrev Key := Sum Int Str
noncomputable def keyIs : Key → Value → Bool
  | .inl k, v => Value.isInt k v
  | .inr x, v => Value.isStrOf x v
noncomputable def keyH (w : World) : Key → Int
  | .inl k => hashInt k
  | .inr x => hashStr w x
theorem keyIs_shape : ∀ {k : Key} {v : Value}, keyIs k v = true → (∃ i t, k = Sum.inl i ∧ v = Value.int i t) ∨ (∃ x t, k = Sum.inr x ∧ v = Value.str x t)
  | .inl i, v, h => by
    obtain ⟨t, e⟩ := Value.isInt_shape (k := i) (v := v) h
    exact .inl ⟨i, t, rfl, e⟩
  | .inr x, v, h => by
    obtain ⟨t, e⟩ := Value.isStrOf_shape (x := x) (v := v) h
    exact .inr ⟨x, t, rfl, e⟩
theorem key_ll (a b : Int) : decide ((Sum.inl a : Key) = Sum.inl b) = (a == b) := by
  by_cases e : a = b
  · subst e; simp
  · have h : ¬ (Sum.inl a : Key) = Sum.inl b := fun q => e (Sum.inl.inj q)
    rw [decide_eq_false h]
    exact (beq_eq_false_iff_ne.mpr e).symm
theorem key_rr (a b : Str) : decide ((Sum.inr a : Key) = Sum.inr b) = decide (a = b) := by
  by_cases e : a = b
  · subst e; simp
  · have h : ¬ (Sum.inr a : Key) = Sum.inr b := fun q => e (Sum.inr.inj q)
    rw [decide_eq_false h, decide_eq_false e]
theorem key_lr (a : Int) (b : Str) : decide ((Sum.inl a : Key) = Sum.inr b) = false := decide_eq_false (fun q => nomatch q)
theorem key_rl (a : Str) (b : Int) : decide ((Sum.inr a : Key) = Sum.inl b) = false := decide_eq_false (fun q => nomatch q)

noncomputable def mixKind (prog : Program) (w : World) : PySem.KeyKind prog w Key where
  is := keyIs
  hash := keyH w
  inj := fun v a b ha hb => by
    rcases keyIs_shape ha with ⟨i, t, rfl, rfl⟩ | ⟨x, t, rfl, rfl⟩
    · rcases keyIs_shape hb with ⟨j, u, rfl, e⟩ | ⟨y, u, rfl, e⟩
      · injection e with e1 _; rw [e1]
      · exact nomatch e
    · rcases keyIs_shape hb with ⟨j, u, rfl, e⟩ | ⟨y, u, rfl, e⟩
      · exact nomatch e
      · injection e with e1 _; rw [e1]
  byValue := fun k v h => by
    rcases keyIs_shape h with ⟨i, t, rfl, rfl⟩ | ⟨x, t, rfl, rfl⟩ <;> rfl
  pyHash := fun hv h => by
    rcases keyIs_shape hv with ⟨i, t, rfl, rfl⟩ | ⟨x, t, rfl, rfl⟩
    · exact wpAny_pyHash_int h
    · exact wpAny_pyHash_str h
  eqBool := fun hu hv h => by
    rcases keyIs_shape hu with ⟨i, t, rfl, rfl⟩ | ⟨x, t, rfl, rfl⟩
    · rcases keyIs_shape hv with ⟨j, u, rfl, rfl⟩ | ⟨y, u, rfl, rfl⟩
      · rw [key_ll] at h; exact wpAny_eqBool_int h
      · rw [key_lr] at h; exact SeqAt.EqAt.int_str i t y u _ _ _ _ h
    · rcases keyIs_shape hv with ⟨j, u, rfl, rfl⟩ | ⟨y, u, rfl, rfl⟩
      · rw [key_rl] at h; exact SeqAt.EqAt.str_int x t j u _ _ _ _ h
      · rw [key_rr] at h; exact wpAny_eqBool_str h
  «strs» := fun k x t v h => by
    rcases keyIs_shape h with ⟨i, u, rfl, e⟩ | ⟨y, u, rfl, e⟩
    · exact nomatch e
    · injection e with e1 _
      subst e1
      cases v <;> rfl

end L2

namespace L2
open PySem PySem.Spec PyProof.Rows

/-- a value, without the heap -/
inductive V where
  | non | bl (b : Bool) | int (i : Int) | str (x : Str) | byt (b : Array UInt8) | flt (b : UInt64) | ref (a : Addr) | ty (n : String)
  deriving DecidableEq

noncomputable def RelV : V → Value → Prop
  | .non, u => u = Value.none
  | .bl b, u => u = Value.bool b
  | .int i, u => ∃ t, u = Value.int i t
  | .str x, u => ∃ t, u = Value.str x t
  | .byt b, u => ∃ t, u = Value.bytes b t
  | .flt b, u => ∃ t, u = Value.float b t
  | .ref a, u => u = Value.ref a
  | .ty n, u => u = Value.type n

noncomputable abbrev Vals : List V → List Value → Prop := Paired RelV
theorem Vals.length {xs : List V} {us : List Value} (r : Vals xs us) : xs.length = us.length := Paired.length r
theorem Vals.get : ∀ {xs : List V} {us : List Value} {i : Nat} {x : V}, Vals xs us → xs[i]? = some x → ∃ u, us[i]? = some u ∧ RelV x u
  | _, _, _, _, .nil, e => by simp at e
  | _, _, 0, _, .cons r _, e => by simp at e; subst e; exact ⟨_, rfl, r⟩
  | _, _, i + 1, x, .cons _ t, e => by
    obtain ⟨u, h1, h2⟩ := Vals.get (i := i) (x := x) t (by simpa using e)
    exact ⟨u, by simpa using h1, h2⟩
theorem Vals.append : ∀ {xs ys : List V} {us ws : List Value}, Vals xs us → Vals ys ws → Vals (xs ++ ys) (us ++ ws)
  | _, _, _, _, .nil, s => s
  | _, _, _, _, .cons r t, s => .cons r (Vals.append t s)
theorem Vals.take : ∀ {xs : List V} {us : List Value} (n : Nat), Vals xs us → Vals (xs.take n) (us.take n)
  | _, _, 0, _ => .nil
  | _, _, _ + 1, .nil => .nil
  | _, _, n + 1, .cons r t => .cons r (Vals.take n t)
theorem Vals.drop : ∀ {xs : List V} {us : List Value} (n : Nat), Vals xs us → Vals (xs.drop n) (us.drop n)
  | _, _, 0, r => r
  | _, _, _ + 1, .nil => .nil
  | _, _, n + 1, .cons _ t => Vals.drop n t
noncomputable def RelO : Option V → Option Value → Prop
  | some v, some u => RelV v u
  | none, none => True
  | _, _ => False
noncomputable def KV {κ : Type} : List (κ × V) → List (κ × Value) → Prop := Paired fun (p : κ × V) (q : κ × Value) => p.1 = q.1 ∧ RelV p.2 q.2

/-- a key of a dict (00_mix): an int or a text -/
noncomputable def kV : Key → V
  | .inl i => .int i
  | .inr x => .str x

/-- what stands at a tracked address -/
inductive HO where
  /-- a list -/
  | lst (xs : List V)
  /-- a tuple (never changes) -/
  | tup (xs : List V)
  /-- a dict whose keys are ints and texts; one whose keys are tuples of ints and texts (the empty one is both) -/
  | dK (kvs : List (Key × V)) | dT (kvs : List (List Key × V))
  /-- a set of ints: its members, its size -/
  | set (S : Int → Bool) (n : Nat)
  /-- an instance of the class at C, its dict at dx, its attributes -/
  | ins (C dx : Addr) (fs : List (Str × V))
  /-- the dict of the instance at x -/
  | own (x : Addr)
  /-- the dict of an exception -/
  | xd (fs : List (Str × V))
  /-- a bound method, f of x -/
  | met (f x : Addr)
  /-- a range object lo, lo + 1, .. below hi -/
  | rng (lo hi : Int)
  /-- a thing that is known to the object (the script; a dict while a loop walks it): read, never written while it is so -/
  | frz (o : Obj) (u : HO)
  /-- a code object's table -/
  | tbl (ps : Array Value)
  /-- any other thing, by what is true of its one object (a def of one's own: SetO a S n := HO.ext fun h => ..) -/
  | ext (φ : Heap → Prop)

noncomputable abbrev Hp := Addr → Option HO
noncomputable def upd (H : Hp) (a : Addr) (o : HO) : Hp := fun b => if b = a then some o else H b
theorem upd_same {H : Hp} {a : Addr} {o : HO} : upd H a o a = some o := by unfold upd; rw [if_pos rfl]
theorem upd_ne {H : Hp} {a b : Addr} {o : HO} (h : b ≠ a) : upd H a o b = H b := by unfold upd; rw [if_neg h]
theorem upd_upd {H : Hp} {a : Addr} {o u : HO} : upd (upd H a o) a u = upd H a u := by
  funext b; unfold upd; split <;> rfl
theorem ne_of_none {H : Hp} {a b : Addr} {o : HO} (h : H a = some o) (h' : H b = none) : a ≠ b := by
  intro e; subst e; rw [h] at h'; cases h'

section
variable (P : Program) (w : World)
noncomputable def ObjOk (H : Hp) (h : Heap) (a : Addr) : HO → Prop
  | .lst xs => xs.length ≤ sizeLine ∧ ∃ (its : List Value) (n : Nat), Vals xs its ∧ h.get? a = some { cls := .type "list", data := .seq its.toArray n }
  | .tup xs => xs.length ≤ sizeLine ∧ ∃ its : List Value, Vals xs its ∧ IsTup h a its.toArray
  | .dK kvs => kvs.length ≤ sizeLine ∧ (a == sysModules) = false ∧ ∃ vs, KV kvs vs ∧ h.DictOf (mixKind P w) a vs
  | .dT kvs => kvs.length ≤ sizeLine ∧ (a == sysModules) = false ∧ ∃ xs : List (List Key × Addr × Value),
      Paired (fun (p : List Key × V) (q : List Key × Addr × Value) => p.1 = q.1 ∧ H q.2.1 = some (.tup (p.1.map kV)) ∧ RelV p.2 q.2.2) kvs xs ∧
      ∃ o es ep, h.get? a = some o ∧ o.ExactDict ∧ o.data = .dict es ep ∧ es.toList = xs.map (entryOfKey (tupleKind (mixKind P w))) ∧ (xs.map (·.1)).Nodup
  | .set S n => h.SetOf (intKind P w) a S n
  | .ins C dx fs => H dx = some (.own a) ∧ fs.length ≤ 1000 ∧ dx ≠ a ∧ h.get? a = some (PySem.W.instObj C dx) ∧
      ∃ mA, h.Ns1 dx mA ∧ (∀ f, RelO (fs.lookup f) (mA f)) ∧ PySem.Within mA (fs.map (·.1))
  | .own _ => ∃ o, h.get? a = some o
  | .xd fs => ∃ mA, h.Ns1 a mA ∧ ∀ f, RelO (fs.lookup f) (mA f)
  | .rng lo hi => ∃ t u v, h.get? a = some { cls := .type "range", data := .fields #[.int lo t, .int hi u, .int 1 v] }
  | .frz o u => h.get? a = some o ∧ ObjOk H h a u
  | .tbl ps => h.get? a = some { cls := .none, data := .fields ps }
  | .met f x => h.get? a = some (PySem.W.methodObj (.ref f) (.ref x))
  | .ext φ => φ h ∧ (∃ o, h.get? a = some o) ∧ ∀ h1 h2 : Heap, φ h1 → (∀ o, h1.get? a = some o → h2.get? a = some o) → φ h2
/-- the abstract heap is held -/
noncomputable def HOk (H : Hp) (h : Heap) : Prop := ∀ a o, H a = some o → ObjOk P w H h a o
end

section
variable {P : Program} {w : World} {H H' : Hp} {h h' : Heap} {a : Addr} {o : HO}
theorem ObjOk.lt (x : ObjOk P w H h a o) : a < h.objs.size := by
  cases o with
  | lst xs => obtain ⟨_, _, _, _, e⟩ := x; exact Heap.lt_size e
  | tup xs => obtain ⟨_, _, _, p⟩ := x; exact p.lt
  | dK kvs => obtain ⟨_, _, _, _, o, _, _, e, _⟩ := x; exact Heap.lt_size e
  | dT kvs => obtain ⟨_, _, _, _, o, _, _, e, _⟩ := x; exact Heap.lt_size e
  | set S n => obtain ⟨o, _, _, _, e, _⟩ := x; exact Heap.lt_size e
  | ins C dx fs => obtain ⟨_, _, _, e, _⟩ := x; exact Heap.lt_size e
  | own y => obtain ⟨_, e⟩ := x; exact Heap.lt_size e
  | xd fs => obtain ⟨_, ⟨_, _, _, e, _⟩, _⟩ := x; exact Heap.lt_size e
  | rng lo hi => obtain ⟨_, _, _, e⟩ := x; exact Heap.lt_size e
  | frz ob u => obtain ⟨e, _⟩ := x; exact Heap.lt_size e
  | tbl ps => exact Heap.lt_size (show h.get? a = some _ from x)
  | met f y => exact Heap.lt_size (show h.get? a = some _ from x)
  | ext φ => obtain ⟨_, ⟨_, e⟩, _⟩ := x; exact Heap.lt_size e
theorem Paired.mapP {α β : Type} {F G : α → β → Prop} : ∀ {l₁ : List α} {l₂ : List β}, Paired F l₁ l₂ → (∀ a b, F a b → G a b) → Paired G l₁ l₂
  | _, _, .nil, _ => .nil
  | _, _, .cons r t, f => .cons (f _ _ r) (Paired.mapP t f)
/-- what an object's description leans on: its own object, its own dict, the tuples -/
theorem ObjOk.stay (x : ObjOk P w H h a o) (k : ∀ b u, (b = a ∨ H b = some (.own a)) → h.get? b = some u → h'.get? b = some u)
    (ho : ∀ b, H b = some (.own a) → H' b = some (.own a)) (ht : ∀ b xs, H b = some (.tup xs) → H' b = some (.tup xs)) : ObjOk P w H' h' a o := by
  induction o with
  | lst xs => obtain ⟨z, its, n, r, e⟩ := x; exact ⟨z, its, n, r, k _ _ (.inl rfl) e⟩
  | tup xs => obtain ⟨z, its, r, ob, e, c⟩ := x; exact ⟨z, its, r, ob, k _ _ (.inl rfl) e, c⟩
  | dK kvs => obtain ⟨z, y, vs, r, ob, es, ep, e, c⟩ := x; exact ⟨z, y, vs, r, ob, es, ep, k _ _ (.inl rfl) e, c⟩
  | dT kvs =>
    obtain ⟨z, y, xs, r, ob, es, ep, e, c⟩ := x
    exact ⟨z, y, xs, Paired.mapP r fun p q z => ⟨z.1, ht _ _ z.2.1, z.2.2⟩, ob, es, ep, k _ _ (.inl rfl) e, c⟩
  | set S n => obtain ⟨ob, es, ep, t, e, c⟩ := x; exact ⟨ob, es, ep, t, k _ _ (.inl rfl) e, c⟩
  | ins C dx fs =>
    obtain ⟨d, z, ne, e, mA, ⟨od, es, ep, e2, c⟩, r⟩ := x
    exact ⟨ho _ d, z, ne, k _ _ (.inl rfl) e, mA, ⟨od, es, ep, k _ _ (.inr d) e2, c⟩, r⟩
  | own y => obtain ⟨ob, e⟩ := x; exact ⟨ob, k _ _ (.inl rfl) e⟩
  | xd fs => obtain ⟨mA, ⟨od, es, ep, e, c⟩, r⟩ := x; exact ⟨mA, ⟨od, es, ep, k _ _ (.inl rfl) e, c⟩, r⟩
  | rng lo hi => obtain ⟨t, u, v, e⟩ := x; exact ⟨t, u, v, k _ _ (.inl rfl) e⟩
  | frz ob u ih => obtain ⟨e, q⟩ := x; exact ⟨k _ _ (.inl rfl) e, ih q⟩
  | tbl ps =>
    have e : h.get? a = some { cls := .none, data := .fields ps } := x
    show h'.get? a = some { cls := .none, data := .fields ps }
    exact k a _ (.inl rfl) e
  | met f y =>
    have e : h.get? a = some (PySem.W.methodObj (.ref f) (.ref y)) := x
    show h'.get? a = some (PySem.W.methodObj (.ref f) (.ref y))
    exact k a _ (.inl rfl) e
  | ext φ => obtain ⟨p, ⟨o, e⟩, st⟩ := x; exact ⟨st _ _ p fun o q => k _ _ (.inl rfl) q, ⟨o, k _ _ (.inl rfl) e⟩, st⟩
theorem HOk.lt (x : HOk P w H h) (e : H a = some o) : a < h.objs.size := (x a o e).lt
theorem HOk.fresh (x : HOk P w H h) (e : h.objs.size ≤ a) : H a = none := by
  cases q : H a with
  | none => rfl
  | some u => exact absurd (Nat.lt_of_lt_of_le (x.lt q) e) (Nat.lt_irrefl _)
/-- every object of the heap is kept -/
theorem HOk.kept (x : HOk P w H h) (k : ∀ b u, h.get? b = some u → h'.get? b = some u) : HOk P w H h' := fun a o e =>
  (x a o e).stay (fun b u _ q => k b u q) (fun _ q => q) fun _ _ q => q
/-- a new object is laid and tracked -/
theorem HOk.laid (x : HOk P w H h) (k : ∀ b u, h.get? b = some u → h'.get? b = some u) (hp : h.objs.size ≤ a) (new : ObjOk P w (upd H a o) h' a o) : HOk P w (upd H a o) h' := fun b u e => by
  have hn := x.fresh hp
  by_cases hb : b = a
  · subst hb; rw [upd_same] at e; cases e; exact new
  · rw [upd_ne hb] at e
    exact (x b u e).stay (fun c v _ q => k c v q) (fun c q => by rw [upd_ne (ne_of_none q hn)]; exact q) fun c xs q => by rw [upd_ne (ne_of_none q hn)]; exact q
end

/-- what may be read as u: it is u, or a known u -/
noncomputable def Rd (H : Hp) (a : Addr) (u : HO) : Prop := H a = some u ∨ ∃ o, H a = some (.frz o u)
theorem Rd.ok {P : Program} {w : World} {H : Hp} {h : Heap} {a : Addr} {u : HO} (r : Rd H a u) (x : HOk P w H h) : ObjOk P w H h a u := by
  rcases r with r | ⟨o, r⟩
  · exact x a u r
  · obtain ⟨_, q⟩ := x a _ r
    exact q
/-- what may be written -/
noncomputable def Mut : Option HO → Prop
  | some (.lst _) => True
  | some (.dK _) => True
  | some (.dT _) => True
  | some (.set _ _) => True
  | some (.ins _ _ _) => True
  | some (.ext _) => True
  | _ => False
section
variable {P : Program} {w : World} {H : Hp} {h h' : Heap} {x e : Addr} {o' : HO}
/-- the object at e is changed: x itself, or the dict of the instance x -/
theorem HOk.write (ok : HOk P w H h) (mu : Mut (H x)) (he : e = x ∨ H e = some (.own x)) (k : ∀ b u, b ≠ e → h.get? b = some u → h'.get? b = some u) (heo : ∃ u, h'.get? e = some u)
    (new : ObjOk P w (upd H x o') h' x o') : HOk P w (upd H x o') h' := fun b u q => by
  have nown : ∀ c y, H c = some (.own y) → c ≠ x := fun c y r z => by subst z; rw [r] at mu; exact mu
  have ntup : ∀ c xs, H c = some (.tup xs) → c ≠ x := fun c xs r z => by subst z; rw [r] at mu; exact mu
  by_cases hb : b = x
  · subst hb; rw [upd_same] at q; cases q; exact new
  · rw [upd_ne hb] at q
    by_cases hbe : b = e
    · have q' : H b = some (.own x) := by
        rcases he with z | z
        · exact absurd (hbe.trans z) hb
        · rw [hbe]; exact z
      rw [q] at q'; cases q'
      obtain ⟨v, hv⟩ := heo
      exact ⟨v, by rw [hbe]; exact hv⟩
    · refine (ok b u q).stay (fun c v hc r => k c v ?_ r) (fun c r => by rw [upd_ne (nown c b r)]; exact r) fun c xs r => by rw [upd_ne (ntup c xs r)]; exact r
      rcases hc with rfl | hc
      · exact hbe
      · rintro rfl
        rcases he with z | z
        · exact nown c b hc z
        · rw [hc] at z; cases z; exact hb rfl
end

/-! ### kept unless tracked; of the frames at fs (the callers') the slots may change (an exception that passes writes there); of the records at ex (iterators) nothing is said -/
structure Un (fs ex : List Addr) (H H' : Hp) (h h' : Heap) : Prop where
  keep : ∀ b o, h.get? b = some o → H b = none → b ∉ fs → b ∉ ex → h'.get? b = some o
  slot : ∀ b o, h.get? b = some o → H b = none → b ∈ fs → b ∉ ex → ∃ sl, h'.get? b = some { o with slots := sl }
  free : ∀ b o, h.get? b = some o → H b = none → b ∉ ex → H' b = none
  there : ∀ b o, h.get? b = some o → b ∉ ex → ∃ o', h'.get? b = some o'
  tups : ∀ b xs, H b = some (.tup xs) → H' b = some (.tup xs)
  frzs : ∀ b o u, H b = some (.frz o u) → H' b = some (.frz o u)
  tbls : ∀ b ps, H b = some (.tbl ps) → ∃ more, H' b = some (.tbl (ps ++ more))
section
variable {fs fs' ex ex' : List Addr} {H H1 H2 : Hp} {h h1 h2 h' : Heap} {a x e : Addr} {o : HO}
theorem Un.any (u : Un fs ex H H1 h h1) {b : Addr} {ob : Obj} (q : h.get? b = some ob) (n : H b = none) (hx : b ∉ ex) : ∃ sl, h1.get? b = some { ob with slots := sl } := by
  by_cases hb : b ∈ fs
  · exact u.slot b ob q n hb hx
  · exact ⟨ob.slots, u.keep b ob q n hb hx⟩
theorem Un.kept (k : ∀ b u, h.get? b = some u → h'.get? b = some u) : Un fs ex H H h h' :=
  ⟨fun b ob q _ _ _ => k b ob q, fun b ob q _ _ _ => ⟨ob.slots, k b ob q⟩, fun _ _ _ n _ => n, fun b ob q _ => ⟨ob, k b ob q⟩, fun _ _ q => q, fun _ _ _ q => q, fun _ ps q => ⟨#[], by rw [q]; simp⟩⟩
theorem Un.refl : Un fs ex H H h h := Un.kept fun _ _ q => q
theorem Un.laid (k : ∀ b u, h.get? b = some u → h'.get? b = some u) (hp : h.objs.size ≤ a) (hn : H a = none) : Un fs ex H (upd H a o) h h' where
  keep := fun b u q _ _ _ => k b u q
  slot := fun b u q _ _ _ => ⟨u.slots, k b u q⟩
  free := fun b u q n _ => by rw [upd_ne (Nat.ne_of_lt (Nat.lt_of_lt_of_le (Heap.lt_size q) hp))]; exact n
  there := fun b u q _ => ⟨u, k b u q⟩
  tups := fun b xs q => by rw [upd_ne (ne_of_none q hn)]; exact q
  frzs := fun b u xs q => by rw [upd_ne (ne_of_none q hn)]; exact q
  tbls := fun b ps q => ⟨#[], by rw [upd_ne (ne_of_none q hn), q]; simp⟩
theorem Un.write (mu : Mut (H x)) (he : e = x ∨ H e = some (.own x)) (k : ∀ b u, b ≠ e → h.get? b = some u → h'.get? b = some u) (heo : ∃ u, h'.get? e = some u) : Un fs ex H (upd H x o) h h' := by
  have hx : ∀ b, H b = none → b ≠ x := fun b n z => by subst z; rw [n] at mu; exact mu
  have hb : ∀ b, H b = none → b ≠ e := fun b n z => by
    subst z
    rcases he with r | r
    · exact hx b n r
    · rw [n] at r; cases r
  have hm : ∀ b u, H b = some u → ¬ Mut (some u) → b ≠ x := fun b u q nm z => by subst z; rw [q] at mu; exact nm mu
  refine ⟨fun b u q n _ _ => k b u (hb b n) q, fun b u q n _ _ => ⟨u.slots, k b u (hb b n) q⟩, fun b u q n _ => by rw [upd_ne (hx b n)]; exact n, fun b u q _ => ?_,
    fun b xs q => by rw [upd_ne (hm b _ q fun z => z)]; exact q, fun b u xs q => by rw [upd_ne (hm b _ q fun z => z)]; exact q, fun b ps q => ⟨#[], by rw [upd_ne (hm b _ q fun z => z), q]; simp⟩⟩
  by_cases hbe : b = e
  · subst hbe; exact heo
  · exact ⟨u, k b u hbe q⟩
end

/-! ### the heap without what is tracked -/
noncomputable def trk (h : Heap) (H : Hp) : List Addr := (List.range h.objs.size).filter fun a => (H a).isSome
noncomputable def hidT (h : Heap) (H : Hp) : Heap := PySem.W.hideAll h (trk h H)
theorem hidT_size (h : Heap) (H : Hp) : (hidT h H).objs.size = h.objs.size := PySem.W.hideAll_size _ _
theorem hidT_get {h : Heap} {H : Hp} {b : Addr} {o : Obj} (e : h.get? b = some o) (n : H b = none) : (hidT h H).get? b = some o :=
  PySem.W.hideAll_get _ e fun hm => by
    have q : (H b).isSome = true := (List.mem_filter.mp hm).2
    rw [n] at q; simp at q
theorem of_hidT {h : Heap} {H : Hp} {b : Addr} {o : Obj} (e : (hidT h H).get? b = some o) : h.get? b = some o ∧ H b = none := by
  have e' : h.get? b = some o := PySem.W.of_hideAll (trk h H) e
  refine ⟨e', ?_⟩
  cases q : H b with
  | none => rfl
  | some x =>
    have hm : b ∈ trk h H := List.mem_filter.mpr ⟨List.mem_range.mpr (Heap.lt_size e'), by simp [q]⟩
    have z : (hidT h H).get? b = none := PySem.W.hideAll_none (trk h H) hm
    rw [z] at e; cases e

/-! ### OpenK's ledger, filled with every new object but one -/
end L2

namespace L2
open PySem PySem.Spec PyProof.Rows

/-- the module's facts, over the base: the heap at the law's entry without what is tracked there -/
structure Mod (K : PySem.W.Frag) (mg : Str → Option Value) (base : Heap) : Prop where
  kin : K.In base
  glob : base.Ns mainGlobals mg
  blt : ∃ mb, base.Ns builtinsNs mb ∧ ∀ x : Str, x ≠ "__name__" → mb x = bootBuiltins x
  nolimit : base.NoLimit

/-- the context: a def's body (or a comprehension's block) running. base: fixed through the whole law; s₀, H₀: the entry; outer: the frames whose slots others may change (a def's callers); stack: all frames that run;
   ex: iterators that were made ahead of the entry and are walked here (a comprehension's); fn: the names whose cells were made at the entry (a def: all; a comprehension's block: its own); calm: not within an except suite; pn: pins that every state bears; xe: what is wanted of an exception that leaves the code -/
structure Cx where
  prog : Program
  w : World
  K : PySem.W.Frag
  mg : Str → Option Value
  base : Heap
  A : Around
  N : List Str
  s₀ : Shared
  H₀ : Hp
  env : Env
  outer : List Env
  stack : List Env
  ex : List Addr
  fn : Str → Bool
  calm : Bool
  pn : List (Addr × Obj)
  xe : Value → Shared → Prop
/-- the callers' frames -/
noncomputable def frs (l : List Env) : List Addr := l.filterMap (·.frame)
noncomputable abbrev Cx.fs (X : Cx) : List Addr := frs X.outer

noncomputable def Vis (sc : Scope) (x : Str) : Prop := sc.names.lookup x = some .local ∨ sc.names.lookup x = some .cell ∨ sc.names.lookup x = some .free
noncomputable def Loc (sc : Scope) (x : Str) : Prop := sc.names.lookup x = some .local ∨ sc.names.lookup x = some .cell
noncomputable def Look (env : Env) (h : Heap) (m : Str → Option Value) (x : Str) (u : Value) : Prop :=
  (env.kindOf x = some .local ∧ m x = some u) ∨ ((env.kindOf x = some .cell ∨ env.kindOf x = some .free) ∧ ∃ c, env.cells.lookup x = some c ∧ h.IsCell c (some u))

structure Cx.Ok (X : Cx) : Prop where
  mod : Mod X.K X.mg X.base
  kind : X.env.scope.kind = .function
  glob : X.env.globals = mainGlobals
  blt : X.env.builtins = builtinsNs
  above : X.s₀.heap.objs.size ≤ X.env.locals
  inj : ∀ x y c, X.env.cells.lookup x = some c → X.env.cells.lookup y = some c → x = y
  has : ∀ x, (X.env.kindOf x = some .cell ∨ X.env.kindOf x = some .free) → ∃ c, X.env.cells.lookup x = some c
  cab : ∀ x c, X.fn x = true → X.env.cells.lookup x = some c → X.s₀.heap.objs.size ≤ c
  hd : X.calm = true → X.A.handled = none
  frames : X.A.frames = some X.stack
  stk : X.stack = X.outer ∨ (X.stack = X.env :: X.outer ∧ X.env.frame = some X.env.locals)
  exf : ∀ b ∈ X.ex, b ≠ X.env.locals ∧ ∀ x c, X.env.cells.lookup x = some c → c ≠ b
  bs : ∀ b o, X.base.get? b = some o → X.s₀.heap.get? b = some o ∧ X.H₀ b = none
  bsz : X.base.objs.size ≤ X.s₀.heap.objs.size
  noex : ∀ b o, X.base.get? b = some o → b ∉ X.ex
  exfs : ∀ b ∈ X.ex, b ∉ X.fs
  funs : X.s₀.heap.FunFrames X.base X.outer
  frf : ∀ b ∈ X.fs, X.H₀ b = none

structure Inv (X : Cx) (pins : List (Addr × Obj)) (σ : List (Option V)) (H : Hp) (s : Shared) : Prop where
  ok : X.Ok
  os : s.os = X.s₀.os
  bare : AllBare s.gens
  base : Un X.fs X.ex X.H₀ H X.s₀.heap s.heap
  loc : ∃ m, s.heap.Ns X.env.locals m ∧ ∀ (i : Nat) (x : Str) (v : V), X.N[i]? = some x → σ[i]? = some (some v) → Vis X.env.scope x → ∃ u, RelV v u ∧ Look X.env s.heap m x u
  cell : ∀ x c, X.env.cells.lookup x = some c → ∃ v, s.heap.IsCell c v
  free : H X.env.locals = none
  freeC : ∀ x c, X.env.cells.lookup x = some c → H c = none
  pin : ∀ p ∈ X.pn ++ pins, s.heap.get? p.1 = some p.2 ∧ H p.1 = none ∧ p.1 ≠ X.env.locals ∧ p.1 ∉ X.fs ∧ ∀ v, p.2.data ≠ .cell v
  hok : HOk X.prog X.w H s.heap
  len : σ.length = X.N.length

section
variable {X : Cx} {pins : List (Addr × Obj)} {σ : List (Option V)} {H H' : Hp} {s : Shared} {h' : Heap}

theorem Cx.Ok.nofr (ok : X.Ok) {b : Addr} {o : Obj} (e : X.base.get? b = some o) : b ∉ X.fs := fun hb => by
  have := (ok.funs.mem hb).1
  rw [e] at this; cases this
theorem Inv.bs (I : Inv X pins σ H s) : ∀ b o, X.base.get? b = some o → s.heap.get? b = some o ∧ H b = none := fun b o e =>
  ⟨I.base.keep b o (I.ok.bs b o e).1 (I.ok.bs b o e).2 (I.ok.nofr e) (I.ok.noex b o e), I.base.free b o (I.ok.bs b o e).1 (I.ok.bs b o e).2 (I.ok.noex b o e)⟩
theorem Inv.bk (I : Inv X pins σ H s) : ∀ b o, X.base.get? b = some o → s.heap.get? b = some o := fun b o e => (I.bs b o e).1
theorem Inv.mod (I : Inv X pins σ H s) : Mod X.K X.mg X.base := I.ok.mod
theorem Inv.kIn (I : Inv X pins σ H s) : X.K.In s.heap := I.ok.mod.kin.keeps I.bk
theorem Inv.lt (I : Inv X pins σ H s) : X.env.locals < s.heap.objs.size := let ⟨_, hn, _⟩ := I.loc; hn.lt
theorem Inv.sz (I : Inv X pins σ H s) : X.s₀.heap.objs.size ≤ s.heap.objs.size := Nat.le_trans I.ok.above (Nat.le_of_lt I.lt)
theorem Inv.nofs (I : Inv X pins σ H s) {a : Addr} (h : s.heap.objs.size ≤ a) : a ∉ X.fs := fun hb => by
  obtain ⟨_, o, ho, _⟩ := I.ok.funs.mem hb
  exact absurd (Nat.lt_of_lt_of_le (Heap.lt_size ho) (Nat.le_trans I.sz h)) (Nat.lt_irrefl _)
theorem Inv.cne (I : Inv X pins σ H s) : ∀ x c, X.env.cells.lookup x = some c → c ≠ X.env.locals := fun x c e z => by
  obtain ⟨v, o, ho, hd⟩ := I.cell x c e
  obtain ⟨m, ⟨o', es, ep, ho', hd', _⟩, _⟩ := I.loc
  rw [z, ho'] at ho; cases ho; rw [hd'] at hd; cases hd
theorem Inv.funs (I : Inv X pins σ H s) : s.heap.FunFrames X.base X.outer := by
  have all : ∀ (l : List Env), (∀ b ∈ frs l, b ∈ X.fs) → X.s₀.heap.FunFrames X.base l → s.heap.FunFrames X.base l := by
    intro l
    induction l with
    | nil => intro _ _; trivial
    | cons env r ih =>
      intro hs hl
      obtain ⟨hk, ⟨L, o, hf, hn, ho, hd⟩, hr⟩ := hl
      have hL : L ∈ X.fs := hs L (by unfold frs; rw [List.filterMap_cons, hf]; exact List.mem_cons_self)
      obtain ⟨sl, e⟩ := I.base.slot L o ho (I.ok.frf L hL) hL fun z => I.ok.exfs L z hL
      exact ⟨hk, ⟨L, _, hf, hn, e, hd⟩, ih (fun b hb => hs b (by unfold frs; rw [List.filterMap_cons, hf]; exact List.mem_cons_of_mem _ hb)) hr⟩
  exact all X.outer (fun _ hb => hb) I.ok.funs

/-- the frames that run, for a call -/
theorem Inv.stack (I : Inv X pins σ H s) : s.heap.FunFrames X.base X.stack := by
  rcases I.ok.stk with e | ⟨e, hf⟩
  · rw [e]; exact I.funs
  · rw [e]
    obtain ⟨m, hn, _⟩ := I.loc
    refine .cons (by rw [I.ok.kind]; decide) hf hn ?_ I.funs
    exact Heap.get?_none_of_le (Nat.le_trans I.ok.bsz I.ok.above)
theorem Inv.stkSub (I : Inv X pins σ H s) : ∀ b ∈ frs X.stack, b ∈ X.env.locals :: X.fs := fun b hb => by
  rcases I.ok.stk with e | ⟨e, hf⟩
  · rw [e] at hb; exact List.mem_cons_of_mem _ hb
  · rw [e] at hb
    unfold frs at hb
    rw [List.filterMap_cons, hf] at hb
    exact hb
theorem Inv.stkFree (I : Inv X pins σ H s) : ∀ b ∈ frs X.stack, H b = none := fun b hb => by
  rcases List.mem_cons.mp (I.stkSub b hb) with e | hb
  · rw [e]; exact I.free
  · obtain ⟨_, o, ho, _⟩ := I.ok.funs.mem hb
    exact I.base.free b o ho (I.ok.frf b hb) fun z => I.ok.exfs b z hb

/-- THE STEP: the untracked objects but the frame and the records at ch are kept (the callers' frames up to slots), the frame's map is kept, the new abstract heap is held -/
theorem Inv.step {g' : Array GenState} {t' : Nat} {d' : Drawn} {ch : List Addr} (I : Inv X pins σ H s)
    (hch : ∀ b ∈ ch, (b ∈ X.ex ∨ X.s₀.heap.objs.size ≤ b) ∧ b ≠ X.env.locals ∧ (∀ x c, X.env.cells.lookup x = some c → c ≠ b) ∧ ∀ p ∈ X.pn ++ pins, p.1 ≠ b)
    (keep : ∀ b o, b ≠ X.env.locals → b ∉ X.fs → b ∉ ch → s.heap.get? b = some o → H b = none → h'.get? b = some o)
    (slot : ∀ b o, b ≠ X.env.locals → b ∈ X.fs → b ∉ ch → s.heap.get? b = some o → H b = none → ∃ sl, h'.get? b = some { o with slots := sl }) (free : ∀ b o, b ∉ ch → s.heap.get? b = some o → H b = none → H' b = none)
    (there : ∀ b o, b ∉ ch → s.heap.get? b = some o → ∃ o', h'.get? b = some o')
    (tups : ∀ b xs, H b = some (.tup xs) → H' b = some (.tup xs)) (frzs : ∀ b o u, H b = some (.frz o u) → H' b = some (.frz o u)) (tbls : ∀ b ps, H b = some (.tbl ps) → ∃ more, H' b = some (.tbl (ps ++ more)))
    (ns : ∀ m, s.heap.Ns X.env.locals m → h'.Ns X.env.locals m) (hok : HOk X.prog X.w H' h') (hg : AllBare g') :
    Inv X pins σ H' { s with heap := h', gens := g', drawn := d', toks := t' } := by
  have neL : ∀ b o, X.s₀.heap.get? b = some o → b ≠ X.env.locals := fun b o e => Nat.ne_of_lt (Nat.lt_of_lt_of_le (Heap.lt_size e) I.ok.above)
  have neC : ∀ b o, X.s₀.heap.get? b = some o → b ∉ X.ex → b ∉ ch := fun b o e hx hb => by
    rcases (hch b hb).1 with z | z
    · exact hx z
    · exact absurd (Nat.lt_of_lt_of_le (Heap.lt_size e) z) (Nat.lt_irrefl _)
  have cellK : ∀ x c, X.env.cells.lookup x = some c → ∀ v, s.heap.IsCell c v → h'.IsCell c v := fun x c e v ⟨o, ho, hd⟩ => by
    have nch : c ∉ ch := fun z => (hch c z).2.2.1 x c e rfl
    by_cases hc : c ∈ X.fs
    · obtain ⟨sl, q⟩ := slot c o (I.cne x c e) hc nch ho (I.freeC x c e)
      exact ⟨_, q, hd⟩
    · exact ⟨o, keep c o (I.cne x c e) hc nch ho (I.freeC x c e), hd⟩
  refine ⟨I.ok, I.os, hg, ⟨fun b o e n hb hx => ?_, fun b o e n hb hx => ?_, fun b o e n hx => ?_, fun b o e hx => ?_, fun b xs e => tups b xs (I.base.tups b xs e), fun b o xs e => frzs b o xs (I.base.frzs b o xs e), fun b ps e => ?_⟩, ?_, fun x c e => ?_, ?_, fun x c e => ?_, fun p hp => ?_, hok, I.len⟩
  · exact keep b o (neL b o e) hb (neC b o e hx) (I.base.keep b o e n hb hx) (I.base.free b o e n hx)
  · obtain ⟨sl, e1⟩ := I.base.slot b o e n hb hx
    obtain ⟨sl', e2⟩ := slot b _ (neL b o e) hb (neC b o e hx) e1 (I.base.free b o e n hx)
    exact ⟨sl', e2⟩
  · obtain ⟨o', e1⟩ := I.base.there b o e hx
    exact free b o' (neC b o e hx) e1 (I.base.free b o e n hx)
  · obtain ⟨o', e1⟩ := I.base.there b o e hx
    exact there b o' (neC b o e hx) e1
  · obtain ⟨m1, e1⟩ := I.base.tbls b ps e
    obtain ⟨m2, e2⟩ := tbls b _ e1
    exact ⟨m1 ++ m2, by rw [e2, Array.append_assoc]⟩
  · obtain ⟨m, hn, hl⟩ := I.loc
    refine ⟨m, ns m hn, fun i x v e1 e2 e3 => ?_⟩
    obtain ⟨u, r, l⟩ := hl i x v e1 e2 e3
    refine ⟨u, r, ?_⟩
    rcases l with l | ⟨k, c, e, z⟩
    · exact .inl l
    · exact .inr ⟨k, c, e, cellK x c e _ z⟩
  · obtain ⟨v, z⟩ := I.cell x c e
    exact ⟨v, cellK x c e v z⟩
  · obtain ⟨m, ⟨o, _, _, ho, _⟩, _⟩ := I.loc
    exact free _ o (fun z => (hch _ z).2.1 rfl) ho I.free
  · obtain ⟨v, o, ho, hd⟩ := I.cell x c e
    exact free c o (fun z => (hch c z).2.2.1 x c e rfl) ho (I.freeC x c e)
  · obtain ⟨e, n, ne, nf, d⟩ := I.pin p hp
    have nch : p.1 ∉ ch := fun z => (hch p.1 z).2.2.2 p hp rfl
    exact ⟨keep p.1 p.2 ne nf nch e n, free p.1 p.2 nch e n, ne, nf, d⟩
/-- .. where the frame's own object is kept too -/
theorem Inv.un {t' : Nat} (I : Inv X pins σ H s) (u : Un X.fs [] H H' s.heap h') (hok : HOk X.prog X.w H' h') : Inv X pins σ H' { s with heap := h', toks := t' } := by
  obtain ⟨m, ⟨o, es, ep, ho, r⟩, _⟩ := id I.loc
  obtain ⟨sl, hL⟩ := u.any ho I.free (by simp)
  exact I.step (g' := s.gens) (d' := s.drawn) (ch := []) (fun _ z => nomatch z) (fun b o _ hb _ e n => u.keep b o e n hb (by simp)) (fun b o _ hb _ e n => u.slot b o e n hb (by simp)) (fun b o _ e n => u.free b o e n (by simp)) (fun b o _ e => u.there b o e (by simp)) u.tups u.frzs u.tbls (fun m' hm => by
    obtain ⟨o', es', ep', ho', r'⟩ := hm
    rw [ho] at ho'; cases ho'
    exact ⟨_, es', ep', hL, r'⟩) hok I.bare
/-- behind a call (or a comprehension's block): the slots of this frame may have changed too, the records at ch may have turned -/
theorem Inv.call {g' : Array GenState} {t' : Nat} {d' : Drawn} {ch : List Addr} (I : Inv X pins σ H s) (u : Un (frs X.stack) ch H H' s.heap h') (hok : HOk X.prog X.w H' h') (hg : AllBare g')
    (hch : ∀ b ∈ ch, (b ∈ X.ex ∨ X.s₀.heap.objs.size ≤ b) ∧ b ≠ X.env.locals ∧ (∀ x c, X.env.cells.lookup x = some c → c ≠ b) ∧ ∀ p ∈ X.pn ++ pins, p.1 ≠ b) :
    Inv X pins σ H' { s with heap := h', gens := g', drawn := d', toks := t' } := by
  obtain ⟨m, ⟨o, es, ep, ho, r⟩, _⟩ := id I.loc
  obtain ⟨sl, hL⟩ := u.any ho I.free fun z => (hch _ z).2.1 rfl
  exact I.step (ch := ch) hch (fun b o hL hb hc e n => u.keep b o e n (fun z => (List.mem_cons.mp (I.stkSub b z)).elim hL hb) hc) (fun b o _ _ hc e n => u.any e n hc) (fun b o hc e n => u.free b o e n hc) (fun b o hc e => u.there b o e hc) u.tups u.frzs u.tbls (fun m' hm => by
    obtain ⟨o', es', ep', ho', r'⟩ := hm
    rw [ho] at ho'; cases ho'
    exact ⟨_, es', ep', hL, r'⟩) hok hg
/-- an untracked record of ours (an iterator) has turned -/
theorem Inv.turned {t' : Nat} {it : Addr} (I : Inv X pins σ H s) (k : ∀ b o, b ≠ it → s.heap.get? b = some o → h'.get? b = some o) (hn : H it = none) (hL : it ≠ X.env.locals)
    (h1 : it ∈ X.ex ∨ X.s₀.heap.objs.size ≤ it) (h2 : ∀ x c, X.env.cells.lookup x = some c → c ≠ it) (h3 : ∀ p ∈ X.pn ++ pins, p.1 ≠ it) : Inv X pins σ H { s with heap := h', toks := t' } := by
  have nit : ∀ b u, H b = some u → b ≠ it := fun b u e z => by rw [z, hn] at e; cases e
  refine I.step (g' := s.gens) (d' := s.drawn) (ch := [it]) (fun b hb => ?_) (fun b o _ _ hc e _ => k b o (fun z => hc (by simp [z])) e) (fun b o _ _ hc e _ => ⟨o.slots, k b o (fun z => hc (by simp [z])) e⟩) (fun _ _ _ _ n => n)
    (fun b o hc e => ⟨o, k b o (fun z => hc (by simp [z])) e⟩) (fun _ _ e => e) (fun _ _ _ e => e) (fun b ps e => ⟨#[], by rw [e]; simp⟩) (fun m hm => ?_) (fun b u e => ?_) I.bare
  · have e : b = it := by simpa using hb
    subst e
    exact ⟨h1, hL, h2, h3⟩
  · obtain ⟨o, es, ep, ho, r⟩ := hm
    exact ⟨o, es, ep, k _ o (Ne.symm hL) ho, r⟩
  · refine (I.hok b u e).stay (fun c v hc q => k c v ?_ q) (fun _ q => q) fun _ _ q => q
    rcases hc with z | z
    · rw [z]; exact nit b u e
    · exact nit c _ z
theorem Inv.tok (I : Inv X pins σ H s) (t : Nat) : Inv X pins σ H { s with toks := t } := I.un (h' := s.heap) (t' := t) Un.refl I.hok
/-- all objects kept -/
theorem Inv.kept {t' : Nat} (I : Inv X pins σ H s) (k : ∀ b u, s.heap.get? b = some u → h'.get? b = some u) : Inv X pins σ H { s with heap := h', toks := t' } := I.un (Un.kept k) (I.hok.kept k)
/-- a new object laid and tracked -/
theorem Inv.laid {a : Addr} {o : HO} {t' : Nat} (I : Inv X pins σ H s) (k : ∀ b u, s.heap.get? b = some u → h'.get? b = some u) (hp : s.heap.objs.size ≤ a) (new : ObjOk X.prog X.w (upd H a o) h' a o) :
    Inv X pins σ (upd H a o) { s with heap := h', toks := t' } := I.un (Un.laid k hp (I.hok.fresh hp)) (I.hok.laid k hp new)
/-- an object written -/
theorem Inv.write {x e : Addr} {o : HO} {t' : Nat} (I : Inv X pins σ H s) (mu : Mut (H x)) (he : e = x ∨ H e = some (.own x)) (k : ∀ b u, b ≠ e → s.heap.get? b = some u → h'.get? b = some u) (heo : ∃ u, h'.get? e = some u)
    (new : ObjOk X.prog X.w (upd H x o) h' x o) : Inv X pins σ (upd H x o) { s with heap := h', toks := t' } := I.un (Un.write mu he k heo) (I.hok.write mu he k heo new)
/-- forgetting slots, pins -/
theorem Inv.weak {σ' : List (Option V)} (I : Inv X pins σ H s) (hl : σ'.length = σ.length) (w : ∀ (i : Nat) v, σ'[i]? = some (some v) → σ[i]? = some (some v)) : Inv X pins σ' H s :=
  ⟨I.ok, I.os, I.bare, I.base, let ⟨m, hn, hl'⟩ := I.loc; ⟨m, hn, fun i x v e1 e2 e3 => hl' i x v e1 (w i v e2) e3⟩, I.cell, I.free, I.freeC, I.pin, I.hok, hl.trans I.len⟩
theorem Inv.pins_of {pins' : List (Addr × Obj)} (I : Inv X pins σ H s) (h : ∀ p ∈ pins', s.heap.get? p.1 = some p.2 ∧ H p.1 = none ∧ p.1 ≠ X.env.locals ∧ p.1 ∉ X.fs ∧ ∀ v, p.2.data ≠ .cell v) : Inv X pins' σ H s :=
  ⟨I.ok, I.os, I.bare, I.base, I.loc, I.cell, I.free, I.freeC, fun p hp => (List.mem_append.mp hp).elim (fun z => I.pin p (List.mem_append_left _ z)) (h p), I.hok, I.len⟩

theorem nodup_ix {N : List Str} (hN : N.Nodup) {i j : Nat} {x : Str} (a : N[i]? = some x) (b : N[j]? = some x) : i = j := by
  obtain ⟨h1, e1⟩ := List.getElem?_eq_some_iff.mp a
  obtain ⟨h2, e2⟩ := List.getElem?_eq_some_iff.mp b
  exact (List.getElem_inj hN).mp (e1.trans e2.symm)

/-- a name is stored; what changed -/
theorem store_ok2 {M : Model} {A : Around} {E : Value → Shared → Prop} {i : Nat} {x : Str} {v : V} {u : Value} {Q : Unit → Shared → Prop} (I : Inv X pins σ H s) (hN : X.N.Nodup) (hi : X.N[i]? = some x) (hx : Loc X.env.scope x) (r : RelV v u)
    (h : ∀ s', Inv X pins (σ.set i (some v)) H s' → (∃ a, Heap.SameBut a s.heap s'.heap ∧ (a = X.env.locals ∨ X.env.cells.lookup x = some a)) → Q () s') (hf : X.fn x = true ∨ X.env.scope.names.lookup x = some .local := by first | exact .inl rfl | exact .inr rfl | assumption) : wpAny M A (storeName X.env x u) Q E s := by
  obtain ⟨m, hn, hl⟩ := id I.loc
  have hcls : (X.env.scope.kind == .class || (X.env.scope.kind == .module && X.env.locals != X.env.globals)) = false := by rw [I.ok.kind]; rfl
  have hiσ : i < σ.length := by rw [I.len]; exact (List.getElem?_eq_some_iff.mp hi).1
  have cne := I.cne
  have tracked : ∀ {a : Addr} {h' : Heap}, (∃ o, s.heap.get? a = some o ∧ H a = none) → Heap.SameBut a s.heap h' → HOk X.prog X.w H h' := fun {a h'} ha hs b ob e => by
    obtain ⟨_, _, hfree⟩ := ha
    refine (I.hok b ob e).stay (fun c w' hc q => (hs.2 c ?_).trans q) (fun _ q => q) fun _ _ q => q
    rintro rfl
    rcases hc with rfl | hc
    · rw [hfree] at e; cases e
    · rw [hfree] at hc; cases hc
  rcases hx with hk | hk
  · refine wpAny_storeName_local hk hn (fun h' hn' hs => ?_) hcls
    obtain ⟨oL, _, _, hoL, _⟩ := id hn
    refine h _ ⟨I.ok, I.os, I.bare, ⟨fun b o e n hb hx => ?_, fun b o e n hb hx => ?_, I.base.free, fun b o e hx => ?_, I.base.tups, I.base.frzs, I.base.tbls⟩, ⟨_, hn', fun j y v' e1 e2 e3 => ?_⟩, fun y c e => ?_, I.free, I.freeC, fun p hp => ?_, tracked ⟨oL, hoL, I.free⟩ hs, by simpa using I.len⟩ ⟨_, hs, .inl rfl⟩
    · exact (hs.2 b (Nat.ne_of_lt (Nat.lt_of_lt_of_le (Heap.lt_size e) I.ok.above))).trans (I.base.keep b o e n hb hx)
    · obtain ⟨sl, e1⟩ := I.base.slot b o e n hb hx
      exact ⟨sl, (hs.2 b (Nat.ne_of_lt (Nat.lt_of_lt_of_le (Heap.lt_size e) I.ok.above))).trans e1⟩
    · obtain ⟨o', e1⟩ := I.base.there b o e hx
      exact ⟨o', (hs.2 b (Nat.ne_of_lt (Nat.lt_of_lt_of_le (Heap.lt_size e) I.ok.above))).trans e1⟩
    · by_cases hj : j = i
      · subst hj
        rw [hi] at e1; cases e1
        rw [List.getElem?_set_self hiσ] at e2
        cases e2
        exact ⟨u, r, .inl ⟨hk, by simp⟩⟩
      · rw [List.getElem?_set_ne (Ne.symm hj)] at e2
        obtain ⟨u', r', q⟩ := hl j y v' e1 e2 e3
        refine ⟨u', r', ?_⟩
        rcases q with ⟨k, e⟩ | ⟨k, c, e, z⟩
        · refine .inl ⟨k, ?_⟩
          have : y ≠ x := fun e => hj (nodup_ix hN e1 (e ▸ hi))
          simp [this, e]
        · exact .inr ⟨k, c, e, z.sameBut hs (cne y c e)⟩
    · obtain ⟨w', z⟩ := I.cell y c e
      exact ⟨w', z.sameBut hs (cne y c e)⟩
    · obtain ⟨e, n, ne, nf, d⟩ := I.pin p hp
      exact ⟨(hs.2 p.1 ne).trans e, n, ne, nf, d⟩
  · have hfn : X.fn x = true := by
      rcases hf with z | z
      · exact z
      · rw [z] at hk; cases hk
    obtain ⟨c, hc⟩ := I.ok.has x (.inl hk)
    obtain ⟨w', z⟩ := I.cell x c hc
    refine wpAny_storeName_cell I.ok.kind hk hc z (fun h' hc' hs => ?_)
    obtain ⟨oc, hoc, hocd⟩ := id z
    refine h { s with heap := h' } ⟨I.ok, I.os, I.bare, ⟨fun b o e n hb hx => ?_, fun b o e n hb hx => ?_, I.base.free, fun b o e hx => ?_, I.base.tups, I.base.frzs, I.base.tbls⟩, ⟨m, hn.sameBut hs (Ne.symm (cne x c hc)), fun j y v' e1 e2 e3 => ?_⟩, fun y c' e => ?_, I.free, I.freeC, fun p hp => ?_, tracked ⟨oc, hoc, I.freeC x c hc⟩ hs, by simpa using I.len⟩ ⟨c, hs, .inr hc⟩
    · exact (hs.2 b (Nat.ne_of_lt (Nat.lt_of_lt_of_le (Heap.lt_size e) (I.ok.cab x c hfn hc)))).trans (I.base.keep b o e n hb hx)
    · obtain ⟨sl, e1⟩ := I.base.slot b o e n hb hx
      exact ⟨sl, (hs.2 b (Nat.ne_of_lt (Nat.lt_of_lt_of_le (Heap.lt_size e) (I.ok.cab x c hfn hc)))).trans e1⟩
    · obtain ⟨o', e1⟩ := I.base.there b o e hx
      exact ⟨o', (hs.2 b (Nat.ne_of_lt (Nat.lt_of_lt_of_le (Heap.lt_size e) (I.ok.cab x c hfn hc)))).trans e1⟩
    · by_cases hj : j = i
      · subst hj
        rw [hi] at e1; cases e1
        rw [List.getElem?_set_self hiσ] at e2
        cases e2
        exact ⟨u, r, .inr ⟨.inl hk, c, hc, hc'⟩⟩
      · rw [List.getElem?_set_ne (Ne.symm hj)] at e2
        obtain ⟨u', r', q⟩ := hl j y v' e1 e2 e3
        refine ⟨u', r', ?_⟩
        rcases q with q | ⟨k, c', e, z'⟩
        · exact .inl q
        · refine .inr ⟨k, c', e, z'.sameBut hs ?_⟩
          rintro rfl
          exact hj (nodup_ix hN e1 (I.ok.inj _ _ _ e hc ▸ hi))
    · by_cases hcc : c' = c
      · subst hcc; exact ⟨_, hc'⟩
      · obtain ⟨w2, z2⟩ := I.cell y c' e
        exact ⟨w2, z2.sameBut hs hcc⟩
    · obtain ⟨e, n, ne, nf, d⟩ := I.pin p hp
      refine ⟨(hs.2 p.1 ?_).trans e, n, ne, nf, d⟩
      intro q
      rw [q, hoc] at e
      have q' : oc = p.2 := Option.some.inj e
      exact d w' (by rw [← q']; exact hocd)
theorem store_ok {M : Model} {A : Around} {E : Value → Shared → Prop} {i : Nat} {x : Str} {v : V} {u : Value} {Q : Unit → Shared → Prop} (I : Inv X pins σ H s) (hN : X.N.Nodup) (hi : X.N[i]? = some x) (hx : Loc X.env.scope x) (r : RelV v u)
    (h : ∀ s', Inv X pins (σ.set i (some v)) H s' → Q () s') (hf : X.fn x = true ∨ X.env.scope.names.lookup x = some .local := by first | exact .inl rfl | exact .inr rfl | assumption) : wpAny M A (storeName X.env x u) Q E s :=
  store_ok2 I hN hi hx r (fun s' I' _ => h s' I') hf
/-- behind a call or a block, the state as it is -/
theorem Inv.call' {s' : Shared} {ch : List Addr} (I : Inv X pins σ H s) (ho : s'.os = s.os) (u : Un (frs X.stack) ch H H' s.heap s'.heap) (hok : HOk X.prog X.w H' s'.heap) (hg : AllBare s'.gens)
    (hch : ∀ b ∈ ch, (b ∈ X.ex ∨ X.s₀.heap.objs.size ≤ b) ∧ b ≠ X.env.locals ∧ (∀ x c, X.env.cells.lookup x = some c → c ≠ b) ∧ ∀ p ∈ X.pn ++ pins, p.1 ≠ b) : Inv X pins σ H' s' := by
  obtain ⟨h', g', d', t', o'⟩ := s'
  have e : o' = s.os := ho
  subst e
  exact I.call (g' := g') (t' := t') (d' := d') u hok hg hch
end

/-! ### the judgements -/
/-- an exception: its class, its own dict's address (where it has one), the abstract heap behind it -/
noncomputable abbrev XK := Value → Option Addr → Hp → Prop
noncomputable abbrev St := List (Option V)
noncomputable abbrev VK := V → Hp → Prop
/-- an expression's reading; a test's; an argument list's -/
noncomputable abbrev TE := St → Hp → VK → Prop
noncomputable abbrev TT := St → Hp → (Bool → Hp → Prop) → Prop
noncomputable abbrev TA := St → Hp → (List V → Hp → Prop) → Prop
/-- what is wanted behind a statement -/
structure Ends where
  nx : St → Hp → Prop
  rt : VK
  bk : St → Hp → Prop := fun _ _ => False
  ct : St → Hp → Prop := fun _ _ => False
noncomputable abbrev TS := Ends → St → Hp → Prop

noncomputable def EP (X : Cx) (pins : List (Addr × Obj)) (σ : St) (Q : VK) (u : Value) (s' : Shared) : Prop := ∃ v H', Inv X pins σ H' s' ∧ RelV v u ∧ Q v H'
noncomputable def TP (X : Cx) (pins : List (Addr × Obj)) (σ : St) (Q : Bool → Hp → Prop) (b : Bool) (s' : Shared) : Prop := ∃ H', Inv X pins σ H' s' ∧ Q b H'
noncomputable def AP (X : Cx) (pins : List (Addr × Obj)) (σ : St) (Q : List V → Hp → Prop) (us : List Value) (s' : Shared) : Prop := ∃ vs H', Inv X pins σ H' s' ∧ Vals vs us ∧ Q vs H'
noncomputable def SP (X : Cx) (pins : List (Addr × Obj)) (D : Ends) (f : Flow) (s' : Shared) : Prop :=
  match f with
  | .next => ∃ σ' H', Inv X pins σ' H' s' ∧ D.nx σ' H'
  | .brk => ∃ σ' H', Inv X pins σ' H' s' ∧ D.bk σ' H'
  | .cont => ∃ σ' H', Inv X pins σ' H' s' ∧ D.ct σ' H'
  | .ret u => ∃ v σ' H', Inv X pins σ' H' s' ∧ RelV v u ∧ D.rt v H'

noncomputable def PE (X : Cx) (e : Expr) (t : TE) : Prop :=
  ∀ (pins : List (Addr × Obj)) (s : Shared) (σ : St) (H : Hp) (Q : VK), Inv X pins σ H s → t σ H Q → wpAny (model X.prog X.w) X.A (eval e X.env) (EP X pins σ Q) X.xe s
noncomputable def PT (X : Cx) (e : Expr) (t : TT) : Prop :=
  ∀ (pins : List (Addr × Obj)) (s : Shared) (σ : St) (H : Hp) (Q : Bool → Hp → Prop), Inv X pins σ H s → t σ H Q → wpAny (model X.prog X.w) X.A (isTrue e X.env (eval e X.env)) (TP X pins σ Q) X.xe s
/-- a test whatever its 'whole' is (and, or) -/
noncomputable def PW (X : Cx) (e : Expr) (t : TT) : Prop :=
  ∀ (whole : Sem Value) (pins : List (Addr × Obj)) (s : Shared) (σ : St) (H : Hp) (Q : Bool → Hp → Prop), Inv X pins σ H s → t σ H Q → wpAny (model X.prog X.w) X.A (isTrue e X.env whole) (TP X pins σ Q) X.xe s
theorem PW.pt {X : Cx} {e : Expr} {t : TT} (h : PW X e t) : PT X e t := h _
/-- an argument list (no star), from the left -/
noncomputable def PA (X : Cx) (es : List Expr) (t : TA) : Prop :=
  ∀ (pos : Pos) (pins : List (Addr × Obj)) (s : Shared) (σ : St) (H : Hp) (Q : List V → Hp → Prop), Inv X pins σ H s → t σ H Q → wpAny (model X.prog X.w) X.A (spliced (backTo pos (starEach es X.env))) (AP X pins σ Q) X.xe s
noncomputable def PS (X : Cx) (st : Stmt) (t : TS) : Prop :=
  ∀ (pins : List (Addr × Obj)) (s : Shared) (σ : St) (H : Hp) (D : Ends), Inv X pins σ H s → t D σ H → wpAny (model X.prog X.w) X.A (exec st X.env) (SP X pins D) X.xe s
noncomputable def PSs (X : Cx) (st : List Stmt) (t : TS) : Prop :=
  ∀ (pins : List (Addr × Obj)) (s : Shared) (σ : St) (H : Hp) (D : Ends), Inv X pins σ H s → t D σ H → wpAny (model X.prog X.w) X.A (execs st X.env) (SP X pins D) X.xe s
/-- weaken the end -/
theorem thn {α : Type} {t : Sem α} {Q Q' : α → Shared → Prop} {M : Model} {A : Around} {E : Value → Shared → Prop} {s : Shared} (h : wpAny M A t Q E s) (hQ : ∀ a s, Q a s → Q' a s) : wpAny M A t Q' E s := wpAny_mono h hQ fun _ _ x => x
end L2

namespace L2
open PySem PySem.Spec PyProof.Rows
section
variable {X : Cx}

/-! ### names and constants -/
noncomputable def tVar (i : Nat) : TE := fun σ H Q => ∃ v, σ[i]? = some (some v) ∧ Q v H
noncomputable def tC (v : V) : TE := fun _ H Q => Q v H
theorem pe_var {i : Nat} {x : Str} {pos : Pos} (hN : X.N[i]? = some x) (hv : Vis X.env.scope x) (hd : (x == ("__debug__" : Str)) = false := by decide) (hcd : (x == ("__classdict__" : Str)) = false := by decide) : PE X (.Name x pos) (tVar i) := by
  intro pins s σ H Q I h
  obtain ⟨v, e, h⟩ := h
  obtain ⟨m, hn, hl⟩ := I.loc
  obtain ⟨u, r, l⟩ := hl i x v hN e hv
  have fin : EP X pins σ Q u s := ⟨v, H, I, r, h⟩
  rcases l with ⟨hk, hm⟩ | ⟨hk, c, hc, hcell⟩
  · exact wpAny_Name (wpAny_loadName_local I.ok.kind hk hn hm fin) hd
  · rcases hk with hk | hk
    · exact wpAny_Name (wpAny_loadName_cell I.ok.kind hk hc hcell fin) hd
    · exact wpAny_Name (wpAny_loadName_free I.ok.kind hk hc hcell fin hcd) hd
theorem pe_int {i j pos} : PE X (.Constant (.int i) j pos) (tC (.int i)) := fun _ _ _ H _ I h => wpAny_Constant_int ⟨.int i, H, I.tok _, ⟨_, rfl⟩, h⟩
theorem pe_bl {b j pos} : PE X (.Constant (.bool b) j pos) (tC (.bl b)) := fun _ _ _ H _ I h => Constant_bool ⟨.bl b, H, I, rfl, h⟩
theorem pe_non {j pos} : PE X (.Constant .none j pos) (tC .non) := fun _ _ _ H _ I h => Constant_none ⟨.non, H, I, rfl, h⟩
theorem pe_str {x j pos} : PE X (.Constant (.str x) j pos) (tC (.str x)) := fun _ _ _ H _ I h => Calls.Constant_str ⟨.str x, H, I.tok _, ⟨_, rfl⟩, h⟩

/-- a global name of the def -/
noncomputable def Gl (X : Cx) (x : Str) : Prop := X.env.kindOf x = some .globalImplicit
theorem ld_glob {E : Value → Shared → Prop} {pins : List (Addr × Obj)} {s : Shared} {σ : St} {H : Hp} {x : Str} {u : Value} {pos : Pos} {Q : Value → Shared → Prop} (I : Inv X pins σ H s) (hg : Gl X x) (hm : X.mg x = some u) (h : Q u s)
    (hd : (x == ("__debug__" : Str)) = false := by decide) : wpAny (model X.prog X.w) X.A (eval (.Name x pos) X.env) Q E s :=
  Calls.Name_function_global I.ok.kind hg (Calls.loadGlobal_global (by rw [I.ok.glob]; exact I.mod.glob.keeps I.bk) hm h) hd
theorem ld_blt {E : Value → Shared → Prop} {pins : List (Addr × Obj)} {s : Shared} {σ : St} {H : Hp} {x : Str} {u : Value} {pos : Pos} {Q : Value → Shared → Prop} (I : Inv X pins σ H s) (hg : Gl X x) (hm : X.mg x = none) (hv : bootBuiltins x = some u) (h : Q u s)
    (hn : x ≠ "__name__" := by decide) (hd : (x == ("__debug__" : Str)) = false := by decide) : wpAny (model X.prog X.w) X.A (eval (.Name x pos) X.env) Q E s := by
  obtain ⟨mb, h1, h2⟩ := I.mod.blt
  exact Calls.Name_function_global I.ok.kind hg (Calls.loadGlobal_builtin (by rw [I.ok.glob]; exact I.mod.glob.keeps I.bk) hm (by rw [I.ok.blt]; exact h1.keeps I.bk) ((h2 x hn).trans hv) h) hd
/-- a module's constant, a class, a function, as a value -/
theorem pe_glob {x : Str} {v : V} {u : Value} {pos : Pos} (hg : Gl X x) (hm : X.mg x = some u) (r : RelV v u) (hd : (x == ("__debug__" : Str)) = false := by decide) : PE X (.Name x pos) (tC v) :=
  fun _ _ _ H _ I h => ld_glob I hg hm ⟨v, H, I, r, h⟩ hd
theorem pe_bltn {x : Str} {v : V} {u : Value} {pos : Pos} (hg : Gl X x) (hm : X.mg x = none) (hv : bootBuiltins x = some u) (r : RelV v u) (hn : x ≠ "__name__" := by decide) (hd : (x == ("__debug__" : Str)) = false := by decide) : PE X (.Name x pos) (tC v) :=
  fun _ _ _ H _ I h => ld_blt I hg hm hv ⟨v, H, I, r, h⟩ hn hd

/-! ### arithmetic -/
variable {a b : Expr} {ta tb : TE} {pos : Pos}
/-! ### comparisons -/
/-- a comparison as a value, as a test -/
noncomputable def tB (t : TE) : TT := fun σ H Q => t σ H fun x H1 => ∃ c, x = .bl c ∧ Q c H1
/-- an expression whose value is a bool, as a test -/
theorem pt_val {e : Expr} {t : TE} (h : PE X e t) (he : ∀ whole, isTrue e X.env whole = (do let v ← whole; standAt e.pos; holding [v] (truthy v)) := by intro _; rfl) : PT X e (tB t) := by
  intro pins s σ H Q I hw
  refine isTrue_plain (thn (h pins s σ H _ I hw) fun v s1 ⟨x, H1, I1, r1, q1⟩ => ?_) (he _)
  obtain ⟨d, rfl, q⟩ := q1
  cases r1
  exact wpAny_truthy_bool ⟨H1, I1, q⟩

/-! ### and, or, not -/
variable {tA tB' : TT} {rest : List Expr}
noncomputable def tOr (t u : TT) : TT := fun σ H Q => t σ H fun c H1 => if c = true then Q true H1 else u σ H1 Q
noncomputable def tNot (t : TT) : TT := fun σ H Q => t σ H fun c H1 => Q (!c) H1
theorem pw_or1 (ha : PT X a tA) : PW X (.BoolOp .Or [a] pos) tA := by
  intro wh pins s σ H Q I h
  refine isTrue_or (thn (ha pins s σ H Q I h) fun c s1 e => ?_)
  cases c with
  | false => exact isTrue_or_nil e
  | true => exact e
theorem pw_or (ha : PT X a tA) (hb : PW X (.BoolOp .Or (b :: rest) pos) tB') : PW X (.BoolOp .Or (a :: b :: rest) pos) (tOr tA tB') := by
  intro wh pins s σ H Q I h
  refine isTrue_or (thn (ha pins s σ H _ I h) fun c s1 ⟨H1, I1, q1⟩ => ?_)
  cases c with
  | true => exact ⟨H1, I1, q1⟩
  | false => exact hb wh pins s1 σ H1 Q I1 q1
theorem pt_not (ha : PT X a tA) : PT X (.UnaryOp .Not a pos) (tNot tA) := by
  intro pins s σ H Q I h
  exact isTrue_not (ha pins s σ H (fun c H1 => Q (!c) H1) I h)
/-- .. as values (bools) -/
noncomputable def tAndV (ta tb : TE) : TE := fun σ H Q => ta σ H fun x H1 => ∃ c, x = .bl c ∧ if c = true then tb σ H1 Q else Q (.bl false) H1
noncomputable def tNotV (ta : TE) : TE := fun σ H Q => ta σ H fun x H1 => ∃ c, x = .bl c ∧ Q (.bl (!c)) H1
theorem pe_one {op} {t : TE} (h : PE X a t) : PE X (.BoolOp op [a] pos) t := fun pins s σ H Q I hw => BoolOp_one (h pins s σ H Q I hw)
theorem pe_and (ha : PE X a ta) (hb : PE X (.BoolOp .And (b :: rest) pos) tb) : PE X (.BoolOp .And (a :: b :: rest) pos) (tAndV ta tb) := by
  intro pins s σ H Q I h
  refine BoolOp_and (thn (ha pins s σ H _ I h) fun v s1 ⟨x, H1, I1, r1, q1⟩ => ?_)
  obtain ⟨c, rfl, q1⟩ := q1
  cases r1
  refine wpAny_truthy_bool ?_
  cases c with
  | true => exact hb pins s1 σ H1 Q I1 q1
  | false => exact ⟨.bl false, H1, I1, rfl, q1⟩
theorem pe_not (ha : PE X a ta) : PE X (.UnaryOp .Not a pos) (tNotV ta) := by
  intro pins s σ H Q I h
  refine UnaryOp_ (thn (ha pins s σ H _ I h) fun v s1 ⟨x, H1, I1, r1, q1⟩ => ?_)
  obtain ⟨c, rfl, q1⟩ := q1
  cases r1
  exact not_of (wpAny_truthy_bool ⟨.bl (!c), H1, I1, rfl, q1⟩)
end
end L2

namespace L2
open PySem PySem.Spec PyProof.Rows

/-! ### a list, a tuple that is read: tracked, frozen, or an object of the module -/
noncomputable def SqL (K : PySem.W.Frag) (H : Hp) (a : Addr) (xs : List V) : Prop :=
  Rd H a (.lst xs) ∨
    ∃ (o : Obj) (its : Array Value) (n : Nat), K.lookup a = some o ∧ o.cls = .type "list" ∧ o.dict = none ∧ o.data = .seq its n ∧ its.size ≤ sizeLine ∧ Vals xs its.toList
noncomputable def SqT (K : PySem.W.Frag) (H : Hp) (a : Addr) (xs : List V) : Prop :=
  Rd H a (.tup xs) ∨
    ∃ (o : Obj) (its : Array Value) (n : Nat), K.lookup a = some o ∧ o.cls = .type "tuple" ∧ o.data = .seq its n ∧ its.size ≤ sizeLine ∧ Vals xs its.toList
noncomputable def absV : Value → Option V
  | .none => some .non
  | .bool b => some (.bl b)
  | .int i _ => some (.int i)
  | .str x _ => some (.str x)
  | .bytes b _ => some (.byt b)
  | .float b _ => some (.flt b)
  | .ref a => some (.ref a)
  | .type n => some (.ty n)
  | _ => none
theorem RelV.abs {x : V} {u : Value} (r : RelV x u) : absV u = some x := by
  cases x with
  | non => cases r; rfl
  | bl _ => cases r; rfl
  | int _ => obtain ⟨t, rfl⟩ := r; rfl
  | str _ => obtain ⟨t, rfl⟩ := r; rfl
  | byt _ => obtain ⟨t, rfl⟩ := r; rfl
  | flt _ => obtain ⟨t, rfl⟩ := r; rfl
  | ref _ => cases r; rfl
  | ty _ => cases r; rfl
theorem RelV.inj {x y : V} {u : Value} (r : RelV x u) (q : RelV y u) : x = y := Option.some.inj (r.abs.symm.trans q.abs)
theorem Vals.inj : ∀ {xs ys : List V} {us : List Value}, Vals xs us → Vals ys us → xs = ys
  | _, _, _, .nil, .nil => rfl
  | _, _, _, .cons r t, .cons r' t' => by rw [r.inj r', Vals.inj t t']
section
variable {X : Cx} {pins : List (Addr × Obj)} {σ : St} {H : Hp} {s : Shared} {a : Addr} {xs ys : List V}
theorem SqL.of {K : PySem.W.Frag} (h : H a = some (.lst xs)) : SqL K H a xs := .inl (.inl h)
theorem SqT.of {K : PySem.W.Frag} (h : H a = some (.tup xs)) : SqT K H a xs := .inl (.inl h)
theorem Inv.list (I : Inv X pins σ H s) (h : SqL X.K H a xs) : ∃ its : List Value, Vals xs its ∧ PlainL s.heap a its.toArray ∧ xs.length ≤ sizeLine := by
  rcases h with h | ⟨o, its, n, hk, hc, hd, hs, hz, r⟩
  · obtain ⟨z, its, n, r, e⟩ := h.ok I.hok
    exact ⟨its, r, ⟨_, n, e, rfl, rfl, rfl⟩, z⟩
  · refine ⟨its.toList, r, ⟨o, n, I.kIn a o hk, hc, hd, by simpa using hs⟩, ?_⟩
    have e := r.length
    simp only [Array.length_toList] at e
    omega
theorem Inv.tuple (I : Inv X pins σ H s) (h : SqT X.K H a xs) : ∃ its : List Value, Vals xs its ∧ IsTup s.heap a its.toArray ∧ xs.length ≤ sizeLine := by
  rcases h with h | ⟨o, its, n, hk, hc, hs, hz, r⟩
  · obtain ⟨z, its, r, p⟩ := h.ok I.hok
    exact ⟨its, r, p, z⟩
  · refine ⟨its.toList, r, ⟨o, I.kIn a o hk, hc, n, by simpa using hs⟩, ?_⟩
    have e := r.length
    simp only [Array.length_toList] at e
    omega
theorem Inv.list_inj (I : Inv X pins σ H s) (h : SqL X.K H a xs) (h' : SqL X.K H a ys) : xs = ys := by
  obtain ⟨its, r, ⟨o, n, e, _, _, d⟩, _⟩ := I.list h
  obtain ⟨its', r', ⟨o', n', e', _, _, d'⟩, _⟩ := I.list h'
  rw [e] at e'; cases e'
  rw [d] at d'
  injection d' with d1 _
  have : its = its' := by simpa using congrArg Array.toList d1
  subst this
  exact r.inj r'
theorem Inv.tuple_inj (I : Inv X pins σ H s) (h : SqT X.K H a xs) (h' : SqT X.K H a ys) : xs = ys := by
  obtain ⟨its, r, ⟨o, e, _, n, d⟩, _⟩ := I.tuple h
  obtain ⟨its', r', ⟨o', e', _, n', d'⟩, _⟩ := I.tuple h'
  rw [e] at e'; cases e'
  rw [d] at d'
  injection d' with d1 _
  have : its = its' := by simpa using congrArg Array.toList d1
  subst this
  exact r.inj r'
end

/-! ### another wish about exceptions -/
noncomputable abbrev Cx.wish (X : Cx) (E : Value → Shared → Prop) : Cx := { X with xe := E }
/-- no exception leaves -/
noncomputable abbrev Cx.nox (X : Cx) : Cx := X.wish fun _ _ => False
theorem Cx.Ok.wish {X : Cx} (ok : X.Ok) (E : Value → Shared → Prop) : (X.wish E).Ok :=
  ⟨ok.mod, ok.kind, ok.glob, ok.blt, ok.above, ok.inj, ok.has, ok.cab, ok.hd, ok.frames, ok.stk, ok.exf, ok.bs, ok.bsz, ok.noex, ok.exfs, ok.funs, ok.frf⟩
theorem Cx.Ok.unwish {X : Cx} {E : Value → Shared → Prop} (ok : (X.wish E).Ok) : X.Ok :=
  ⟨ok.mod, ok.kind, ok.glob, ok.blt, ok.above, ok.inj, ok.has, ok.cab, ok.hd, ok.frames, ok.stk, ok.exf, ok.bs, ok.bsz, ok.noex, ok.exfs, ok.funs, ok.frf⟩
section
variable {X : Cx} {pins : List (Addr × Obj)} {σ : St} {H : Hp} {s : Shared} {E : Value → Shared → Prop}
theorem Inv.wish (I : Inv X pins σ H s) (E : Value → Shared → Prop) : Inv (X.wish E) pins σ H s := ⟨I.ok.wish E, I.os, I.bare, I.base, I.loc, I.cell, I.free, I.freeC, I.pin, I.hok, I.len⟩
theorem Inv.unwish (I : Inv (X.wish E) pins σ H s) : Inv X pins σ H s := ⟨I.ok.unwish, I.os, I.bare, I.base, I.loc, I.cell, I.free, I.freeC, I.pin, I.hok, I.len⟩
theorem SP.unwish {D : Ends} {f : Flow} {s' : Shared} (h : SP (X.wish E) pins D f s') : SP X pins D f s' := by
  cases f with
  | next => obtain ⟨σ', H', I, q⟩ := h; exact ⟨σ', H', I.unwish, q⟩
  | brk => obtain ⟨σ', H', I, q⟩ := h; exact ⟨σ', H', I.unwish, q⟩
  | cont => obtain ⟨σ', H', I, q⟩ := h; exact ⟨σ', H', I.unwish, q⟩
  | ret u => obtain ⟨v, σ', H', I, r, q⟩ := h; exact ⟨v, σ', H', I.unwish, r, q⟩
theorem PSs.nox {st : List Stmt} {t : TS} (h : PSs X.nox st t) : PSs X st t := fun pins s σ H D I hw =>
  wpAny_mono (h pins s σ H D (I.wish _) hw) (fun _ _ q => q.unwish) fun _ _ z => False.elim z
end

/-! ### blocks and small statements -/
section
variable {X : Cx} {st : Stmt} {rest : List Stmt} {t u : TS} {e : Expr} {te : TE} {pos : Pos}
noncomputable def tNext : TS := fun D σ H => D.nx σ H
noncomputable def tSeq (t u : TS) : TS := fun D σ H => t { D with nx := u D } σ H
theorem pss_nil : PSs X [] tNext := fun _ _ σ H _ I h => wpAny_execs_nil ⟨σ, H, I, h⟩
theorem pss_cons (h1 : PS X st t) (h2 : PSs X rest u) : PSs X (st :: rest) (tSeq t u) := by
  intro pins s σ H D I h
  refine wpAny_execs_cons (thn (h1 pins s σ H { D with nx := u D } I h) fun f s1 q => ?_)
  cases f with
  | next =>
    obtain ⟨σ', H', I', q⟩ := q
    exact h2 pins s1 σ' H' D I' q
  | ret v => exact q
  | brk => exact q
  | cont => exact q
theorem pss_one (h1 : PS X st t) : PSs X [st] t := by
  intro pins s σ H D I h
  refine wpAny_execs_cons (thn (h1 pins s σ H D I h) fun f s1 q => ?_)
  cases f with
  | next => exact wpAny_execs_nil q
  | ret v => exact q
  | brk => exact q
  | cont => exact q
/-- in a def's body nothing is shown -/
theorem Inv.quiet {pins : List (Addr × Obj)} {σ : St} {H : Hp} {s : Shared} (I : Inv X pins σ H s) : interactive X.env = false := by simp [interactive, I.ok.kind]
/-- an expression whose value is dropped -/
noncomputable def tDrop (te : TE) : TS := fun D σ H => te σ H fun _ H1 => D.nx σ H1
theorem ps_expr (he : PE X e te) (hs : swapsWith e none pos.line X.env = pure false := by rfl) : PS X (.Expr e pos) (tDrop te) := by
  intro pins s σ H D I h
  exact wpAny_Expr_any (thn (he pins s σ H _ I h) fun v s1 ⟨x, H1, I1, r1, q1⟩ => ⟨σ, H1, I1, q1⟩) I.quiet hs
noncomputable def tRet (te : TE) : TS := fun D σ H => te σ H D.rt
theorem ps_ret (he : PE X e te) : PS X (.Return (some e) pos) (tRet te) := by
  intro pins s σ H D I h
  exact wpAny_Return_some (thn (he pins s σ H _ I h) fun v s1 ⟨x, H1, I1, r1, q1⟩ => ⟨x, σ, H1, I1, r1, q1⟩)
noncomputable def tIfS (c : TT) (t u : TS) : TS := fun D σ H => c σ H fun b H1 => if b = true then t D σ H1 else u D σ H1
theorem ps_if {c : Expr} {a b : List Stmt} {tc : TT} (hc : PT X c tc) (ha : PSs X a t) (hb : PSs X b u) : PS X (.If c a b pos) (tIfS tc t u) := by
  intro pins s σ H D I h
  refine wpAny_If (thn (hc pins s σ H _ I h) fun d s1 ⟨H1, I1, q1⟩ => ?_)
  cases d with
  | true => exact ha pins s1 σ H1 D I1 q1
  | false => exact hb pins s1 σ H1 D I1 q1
end

/-! ### targets -/
noncomputable abbrev TG := V → St → Hp → (St → Hp → Prop) → Prop
noncomputable def PG (X : Cx) (target : Expr) (t : TG) : Prop :=
  ∀ (pins : List (Addr × Obj)) (s : Shared) (σ : St) (H : Hp) (v : V) (u : Value) (Q : St → Hp → Prop), Inv X pins σ H s → RelV v u → t v σ H Q →
    wpAny (model X.prog X.w) X.A (assign target X.env u) (fun _ s' => ∃ σ' H', Inv X pins σ' H' s' ∧ Q σ' H') X.xe s
section
variable {X : Cx} {pos : Pos}
noncomputable def gName (i : Nat) : TG := fun v σ H Q => Q (σ.set i (some v)) H
theorem pg_name {i : Nat} {x : Str} (hN : X.N.Nodup) (hi : X.N[i]? = some x) (hx : Loc X.env.scope x) (hf : X.fn x = true ∨ X.env.scope.names.lookup x = some .local := by first | exact .inl rfl | exact .inr rfl | assumption) : PG X (.Name x pos) (gName i) := by
  intro pins s σ H v u Q I r h
  exact wpAny_assign_Name (store_ok I hN hi hx r (fun s' I' => ⟨_, H, I', h⟩) hf)
/-- target = value -/
noncomputable def tAsg (te : TE) (g : TG) : TS := fun D σ H => te σ H fun x H1 => g x σ H1 D.nx
/-- name = value -/
theorem ps_set {i : Nat} {x : Str} {e : Expr} {te : TE} {pos' : Pos} (hN : X.N.Nodup) (hi : X.N[i]? = some x) (hx : Loc X.env.scope x) (he : PE X e te) (hs : swapsWith e (some (.Name x pos')) pos.line X.env = pure false := by rfl) (hf : X.fn x = true ∨ X.env.scope.names.lookup x = some .local := by first | exact .inl rfl | exact .inr rfl | assumption) :
    PS X (.Assign [.Name x pos'] e pos) (tAsg te (gName i)) := by
  intro pins s σ H D I h
  refine wpAny_Assign_Name (thn (he pins s σ H _ I h) fun v s1 ⟨y, H1, I1, r1, q1⟩ => ?_) hs
  exact store_ok I1 hN hi hx r1 (fun s2 I2 => ⟨_, H1, I2, q1⟩) hf
end

/-! ### while -/
section
variable {X : Cx} {pos : Pos}
end

/-! ### what a loop or a comprehension walks -/
/-- at turn i: it yields x (the heap may grow), or it stops -/
structure It where
  go : Nat → Hp → Prop
  yld : Nat → Hp → V → Hp → Prop
  stop : Nat → Hp → Prop
/-- the iterator's own objects may turn: they are not the frame's, not pinned, younger than the entry (or a comprehension's own) -/
noncomputable def FpOk (X : Cx) (pins : List (Addr × Obj)) (H : Hp) (b : Addr) : Prop :=
  H b = none ∧ b ≠ X.env.locals ∧ b ∉ X.fs ∧ (b ∈ X.ex ∨ X.s₀.heap.objs.size ≤ b) ∧ (∀ x c, X.env.cells.lookup x = some c → c ≠ b) ∧ ∀ p ∈ X.pn ++ pins, p.1 ≠ b
theorem Inv.fpOk {X : Cx} {pins : List (Addr × Obj)} {σ : St} {H H' : Hp} {s : Shared} {b : Addr} (I : Inv X pins σ H s) (hb : s.heap.objs.size ≤ b) (hn : H' b = none) : FpOk X pins H' b := by
  refine ⟨hn, Nat.ne_of_gt (Nat.lt_of_lt_of_le I.lt hb), I.nofs hb, .inr (Nat.le_trans I.sz hb), fun x c e z => ?_, fun p hp z => ?_⟩
  · obtain ⟨v, q⟩ := I.cell x c e
    exact absurd (Nat.lt_of_lt_of_le q.lt (by rw [z]; exact hb)) (Nat.lt_irrefl _)
  · exact absurd (Nat.lt_of_lt_of_le (Heap.lt_size (I.pin p hp).1) (by rw [z]; exact hb)) (Nat.lt_irrefl _)
structure Turn (P : Program) (w : World) (K : PySem.W.Frag) (tg : Expr) (J : It) (fp : List Addr) (it : Addr) (tn : Nat → Heap → Prop) : Prop where
  mem : it ∈ fp
  obj : ∀ i h, tn i h → ∀ b ∈ fp, ∃ o, h.get? b = some o ∧ ∀ v, o.data ≠ .cell v
  keep : ∀ i h h', tn i h → (∀ b ∈ fp, ∀ o, h.get? b = some o → h'.get? b = some o) → tn i h'
  item : ∀ (X : Cx), X.prog = P → X.w = w → X.K = K → X.calm = true → ∀ (i : Nat) (pins : List (Addr × Obj)) (s : Shared) (σ : St) (H : Hp) (E : Value → Shared → Prop), Inv X pins σ H s → (∀ b ∈ fp, FpOk X pins H b) → tn i s.heap → J.go i H →
    wpAny (model P w) X.A (pyNext (.ref it)) (fun r s1 => ∃ u, r = some u ∧
      wpAny (model P w) X.A (letOwnedTupleGo tg (.ref it) u) (fun _ s2 => ∃ x H', Inv X pins σ H' s2 ∧ RelV x u ∧ J.yld i H x H' ∧ tn (i + 1) s2.heap ∧ ∀ b ∈ fp, H' b = none) E s1) E s
  done : ∀ (X : Cx), X.prog = P → X.w = w → X.K = K → X.calm = true → ∀ (i : Nat) (pins : List (Addr × Obj)) (s : Shared) (σ : St) (H : Hp) (E : Value → Shared → Prop), Inv X pins σ H s → (∀ b ∈ fp, FpOk X pins H b) → tn i s.heap → J.stop i H →
    wpAny (model P w) X.A (pyNext (.ref it)) (fun r s1 => r = none ∧ Inv X pins σ H s1) E s
  self : ∀ (A : Around) (i : Nat) (s : Shared) (Q : Value → Shared → Prop) (E : Value → Shared → Prop), tn i s.heap → Q (.ref it) s → wpAny (model P w) A (pyIter (.ref it)) Q E s
noncomputable abbrev TI := St → Hp → (It → Hp → Prop) → Prop
/-- an iterator has come -/
noncomputable def PIE (X : Cx) (pins : List (Addr × Obj)) (σ : St) (tg : Expr) (R : It → Hp → Prop) (itv : Value) (s2 : Shared) : Prop :=
  ∃ (it : Addr) (fp : List Addr) (tn : Nat → Heap → Prop) (J : It) (H' : Hp), itv = .ref it ∧ Inv X pins σ H' s2 ∧ Turn X.prog X.w X.K tg J fp it tn ∧ tn 0 s2.heap ∧ (∀ b ∈ fp, FpOk X pins H' b) ∧ R J H'
noncomputable def PI (X : Cx) (tg iter : Expr) (wi : TI) : Prop :=
  ∀ (pins : List (Addr × Obj)) (s : Shared) (σ : St) (H : Hp) (R : It → Hp → Prop), Inv X pins σ H s → wi σ H R →
    wpAny (model X.prog X.w) X.A (eval iter X.env) (fun v s1 => wpAny (model X.prog X.w) X.A (pyIter v) (PIE X pins σ tg R) X.xe s1) X.xe s

/-- the step ahead of the store is nothing for an iterator that keeps no tuple -/
theorem go_of {M : Model} {A : Around} {E : Value → Shared → Prop} {s : Shared} {tg : Expr} {it : Addr} {u : Value} {o : Obj} {n : String} {vs : Array Value} {Q : Unit → Shared → Prop} (ho : s.heap.get? it = some o) (hc : o.cls = .type n) (hd : o.data = .fields vs)
    (hn : ["enumerate", "zip", "dict_itemiterator", "dict_reverseitemiterator", "odict_iterator", "itertools.zip_longest", "itertools.pairwise"].contains n = false) (hQ : Q () s) : wpAny M A (letOwnedTupleGo tg (.ref it) u) Q E s := by
  unfold letOwnedTupleGo
  cases tg <;> first
    | exact wpAny_pure hQ
    | (cases u <;> first
        | exact wpAny_pure hQ
        | (refine wpAny_bind (wpAny_load ho ?_)
           rw [hc, hd]
           show wpAny M A (if (["enumerate", "zip", "dict_itemiterator", "dict_reverseitemiterator", "odict_iterator", "itertools.zip_longest", "itertools.pairwise"].contains n && vs[0]? == some (rawInt _)) = true then _ else _) Q E s
           rw [if_neg (by intro h; rw [hn, Bool.false_and] at h; cases h)]
           exact wpAny_pure hQ))

/-- the list at a, as it stands at each turn (a loop may append to it) -/
noncomputable def Itl (K : PySem.W.Frag) (a : Addr) : It :=
  ⟨fun i H => ∃ xs x, SqL K H a xs ∧ xs[i]? = some x, fun i H x H' => H' = H ∧ ∀ xs, SqL K H a xs → xs[i]? = some x, fun i H => ∃ xs, SqL K H a xs ∧ xs.length ≤ i⟩
noncomputable def Itt (K : PySem.W.Frag) (a : Addr) : It :=
  ⟨fun i H => ∃ xs x, SqT K H a xs ∧ xs[i]? = some x, fun i H x H' => H' = H ∧ ∀ xs, SqT K H a xs → xs[i]? = some x, fun i H => ∃ xs, SqT K H a xs ∧ xs.length ≤ i⟩
/-- lo, lo + 1, .. (n of them) -/
noncomputable def Itr (lo : Int) (n : Nat) : It := ⟨fun i _ => i < n, fun i H x H' => H' = H ∧ x = .int (lo + i), fun i _ => n ≤ i⟩
theorem turn_list {P : Program} {w : World} {K : PySem.W.Frag} {tg : Expr} (a it : Addr) : Turn P w K tg (Itl K a) [it] it (fun i h => h.IsListIter it a i) where
  mem := by simp
  obj := fun i h st b hb => by
    have e : b = it := by simpa using hb
    subst e
    obtain ⟨o, e, c, d⟩ := st
    exact ⟨o, e, fun v z => by rw [d] at z; cases z⟩
  keep := fun i h h' st k => st.at fun o e => k it (by simp) o e
  item := by
    intro X hP hw hK hc i pins s σ H E I hf st hg
    subst hP hw hK
    obtain ⟨xs, x, hq, hx⟩ := hg
    obtain ⟨its, rv, p, hz⟩ := I.list hq
    obtain ⟨u, hu, ru⟩ := rv.get hx
    obtain ⟨f0, f1, f2, f3, f4, f5⟩ := hf it (by simp)
    refine wpAny_pyNext_list_item st p.isList (x := u) (by simpa using hu) fun h' st' sb => ?_
    have I1 : Inv X pins σ H { s with heap := h' } := I.turned (t' := s.toks) (fun b o hb e => (sb.2 b hb).trans e) f0 f1 f3 f4 f5
    obtain ⟨o, e, c, d⟩ := id st'
    exact ⟨u, rfl, go_of (s := { s with heap := h' }) e c d (by decide) ⟨x, H, I1, ru, ⟨rfl, fun ys hy => by rw [I.list_inj hy hq]; exact hx⟩, st', fun b hb => (hf b hb).1⟩⟩
  done := by
    intro X hP hw hK hc i pins s σ H E I hf st hg
    subst hP hw hK
    obtain ⟨xs, hq, hx⟩ := hg
    obtain ⟨its, rv, p, hz⟩ := I.list hq
    obtain ⟨f0, f1, f2, f3, f4, f5⟩ := hf it (by simp)
    have hl := rv.length
    exact wpAny_pyNext_list_end (I.ok.hd hc) st p.isList (by simp; omega) fun h' eb => ⟨rfl, I.turned (t' := s.toks) (fun b o hb e => eb b o hb e) f0 f1 f3 f4 f5⟩
  self := fun _ _ _ _ _ st h => wpAny_pyIter_listiter st h
theorem turn_tuple {P : Program} {w : World} {K : PySem.W.Frag} {tg : Expr} (a it : Addr) : Turn P w K tg (Itt K a) [it] it (fun i h => h.IsTupleIter it a i) where
  mem := by simp
  obj := fun i h st b hb => by
    have e : b = it := by simpa using hb
    subst e
    obtain ⟨o, e, c, d⟩ := st
    exact ⟨o, e, fun v z => by rw [d] at z; cases z⟩
  keep := fun i h h' st k => st.at fun o e => k it (by simp) o e
  item := by
    intro X hP hw hK hc i pins s σ H E I hf st hg
    subst hP hw hK
    obtain ⟨xs, x, hq, hx⟩ := hg
    obtain ⟨its, rv, p, hz⟩ := I.tuple hq
    obtain ⟨u, hu, ru⟩ := rv.get hx
    obtain ⟨f0, f1, f2, f3, f4, f5⟩ := hf it (by simp)
    refine wpAny_pyNext_tuple_item st (show s.heap.IsTuple a its.toArray from p) (x := u) (by simpa using hu) fun h' st' sb => ?_
    have I1 : Inv X pins σ H { s with heap := h' } := I.turned (t' := s.toks) (fun b o hb e => (sb.2 b hb).trans e) f0 f1 f3 f4 f5
    obtain ⟨o, e, c, d⟩ := id st'
    exact ⟨u, rfl, go_of (s := { s with heap := h' }) e c d (by decide) ⟨x, H, I1, ru, ⟨rfl, fun ys hy => by rw [I.tuple_inj hy hq]; exact hx⟩, st', fun b hb => (hf b hb).1⟩⟩
  done := by
    intro X hP hw hK hc i pins s σ H E I hf st hg
    subst hP hw hK
    obtain ⟨xs, hq, hx⟩ := hg
    obtain ⟨its, rv, p, hz⟩ := I.tuple hq
    obtain ⟨f0, f1, f2, f3, f4, f5⟩ := hf it (by simp)
    have hl := rv.length
    exact wpAny_pyNext_tuple_end (I.ok.hd hc) st (show s.heap.IsTuple a its.toArray from p) (by simp; omega) fun h' eb => ⟨rfl, I.turned (t' := s.toks) (fun b o hb e => eb b o hb e) f0 f1 f3 f4 f5⟩
  self := fun _ _ _ _ _ st h => wpAny_pyIter_tupleiter st h
theorem turn_range {P : Program} {w : World} {K : PySem.W.Frag} {tg : Expr} (it : Addr) (lo : Int) (n : Nat) : Turn P w K tg (Itr lo n) [it] it (fun i h => IsRangeIter h it (lo + (i : Nat) * 1) ((n : Int) - (i : Nat)) 1) where
  mem := by simp
  obj := fun i h st b hb => by
    have e : b = it := by simpa using hb
    subst e
    exact ⟨_, st, fun v z => by
      have z' : Data.fields _ = Data.cell v := z
      cases z'⟩
  keep := fun i h h' st k => k it (by simp) _ st
  item := by
    intro X hP hw hK hc i pins s σ H E I hf st hg
    subst hP hw hK
    obtain ⟨f0, f1, f2, f3, f4, f5⟩ := hf it (by simp)
    have W := Walks.range (prog := X.prog) (w := X.w) (I.ok.hd hc) it lo 1 n
    refine W.item i s _ _ hg st fun v h' tk hv st' kk => ?_
    obtain ⟨t, rfl⟩ := hv
    have I1 : Inv X pins σ H { s with heap := h', toks := tk } := I.turned (fun b o hb e => kk b o (by simpa using hb) e) f0 f1 f3 f4 f5
    refine ⟨_, rfl, go_of (s := { s with heap := h', toks := tk }) (n := "range_iterator") st' rfl rfl (by decide) ⟨.int (lo + i), H, I1, ⟨t, ?_⟩, ⟨rfl, rfl⟩, st', fun b hb => (hf b hb).1⟩⟩
    rw [Int.mul_one]
  done := by
    intro X hP hw hK hc i pins s σ H E I hf st hg
    subst hP hw hK
    obtain ⟨f0, f1, f2, f3, f4, f5⟩ := hf it (by simp)
    exact wpAny_pyNext_range_end (I.ok.hd hc) st (by have : n ≤ i := hg; omega) fun h' eb => ⟨rfl, I.turned (t' := s.toks) (fun b o hb e => eb b o hb e) f0 f1 f3 f4 f5⟩
  self := fun _ _ _ _ _ st h => wpAny_pyIter_rangeiter st h
end L2

namespace L2
open PySem PySem.Spec PyProof.Rows
section
variable {X : Cx} {tg : Expr}
noncomputable def iList (K : PySem.W.Frag) (tl : TE) : TI := fun σ H R => tl σ H fun x H1 => ∃ a, x = .ref a ∧ (∃ xs, SqL K H1 a xs) ∧ R (Itl K a) H1
noncomputable def iTup (K : PySem.W.Frag) (tl : TE) : TI := fun σ H R => tl σ H fun x H1 => ∃ a, x = .ref a ∧ (∃ xs, SqT K H1 a xs) ∧ R (Itt K a) H1
theorem pi_list {l : Expr} {tl : TE} (hl : PE X l tl) : PI X tg l (iList X.K tl) := by
  intro pins s σ H R I h
  refine thn (hl pins s σ H _ I h) fun v s1 ⟨x, H1, I1, r1, q1⟩ => ?_
  obtain ⟨a, e, ⟨xs, hq⟩, q⟩ := q1
  subst e
  cases r1
  obtain ⟨its, rv, p, hz⟩ := I1.list hq
  refine wpAny_pyIter_list p.isList ?_
  refine ⟨s1.heap.objs.size, [s1.heap.objs.size], _, _, H1, rfl, I1.kept (t' := s1.toks) fun b o e => Heap.get?_push_of_some _ e, turn_list a _, ⟨_, Heap.get?_push_size _ rfl, rfl, rfl⟩, fun b hb => ?_, q⟩
  have e : b = s1.heap.objs.size := by simpa using hb
  subst e
  exact I1.fpOk (Nat.le_refl _) (I1.hok.fresh (Nat.le_refl _))
theorem pi_tup {l : Expr} {tl : TE} (hl : PE X l tl) : PI X tg l (iTup X.K tl) := by
  intro pins s σ H R I h
  refine thn (hl pins s σ H _ I h) fun v s1 ⟨x, H1, I1, r1, q1⟩ => ?_
  obtain ⟨a, e, ⟨xs, hq⟩, q⟩ := q1
  subst e
  cases r1
  obtain ⟨its, rv, p, hz⟩ := I1.tuple hq
  refine wpAny_pyIter_tuple (show s1.heap.IsTuple a its.toArray from p) ?_
  refine ⟨s1.heap.objs.size, [s1.heap.objs.size], _, _, H1, rfl, I1.kept (t' := s1.toks) fun b o e => Heap.get?_push_of_some _ e, turn_tuple a _, ⟨_, Heap.get?_push_size _ rfl, rfl, rfl⟩, fun b hb => ?_, q⟩
  have e : b = s1.heap.objs.size := by simpa using hb
  subst e
  exact I1.fpOk (Nat.le_refl _) (I1.hok.fresh (Nat.le_refl _))
/-- a range object just made, walked -/
theorem range_it {pins : List (Addr × Obj)} {σ : St} {H : Hp} {s : Shared} {R : It → Hp → Prop} {E : Value → Shared → Prop} {lo hi : Int} {t u v : Tok} {tk : Nat} (I : Inv X pins σ H s) (h1 : -(2 ^ 62) ≤ lo) (h2 : lo < 2 ^ 62) (h3 : -(2 ^ 62) ≤ hi) (h4 : hi < 2 ^ 62)
    (q : R (Itr lo (hi - lo).toNat) H) : wpAny (model X.prog X.w) X.A (pyIter (.ref s.heap.objs.size)) (PIE X pins σ tg R) E { s with heap := s.heap.push { cls := .type "range", data := .fields #[.int lo t, .int hi u, .int 1 v] }, toks := tk } := by
  refine wpAny_pyIter_range (IsRange.new ..) (small_one h1 h2 h3 h4) ?_
  have I1 : Inv X pins σ H { s with heap := s.heap.push { cls := .type "range", data := .fields #[.int lo t, .int hi u, .int 1 v] }, toks := tk } := I.kept fun b o e => Heap.get?_push_of_some _ e
  refine ⟨(s.heap.push { cls := .type "range", data := .fields #[.int lo t, .int hi u, .int 1 v] }).objs.size, [(s.heap.push { cls := .type "range", data := .fields #[.int lo t, .int hi u, .int 1 v] }).objs.size], _, _, H, rfl,
    I1.kept (t' := tk) fun b o e => Heap.get?_push_of_some _ e, turn_range _ lo (hi - lo).toNat, ?_, fun b hb => ?_, q⟩
  · have e1 : lo + ((0 : Nat) : Int) * 1 = lo := by simp
    have e2 : (((hi - lo).toNat : Nat) : Int) - ((0 : Nat) : Int) = Builtin.Range.rangeSize lo hi 1 := by rw [rangeSize_one]; split <;> omega
    show IsRangeIter _ _ (lo + ((0 : Nat) : Int) * 1) ((((hi - lo).toNat : Nat) : Int) - ((0 : Nat) : Int)) 1
    rw [e1, e2]
    exact Heap.get?_push_size _ rfl
  · have e : b = (s.heap.push { cls := .type "range", data := .fields #[.int lo t, .int hi u, .int 1 v] }).objs.size := by simpa using hb
    subst e
    exact I1.fpOk (Nat.le_refl _) (I1.hok.fresh (Nat.le_refl _))
noncomputable def iRng1 (ta : TA) : TI := fun σ H R => ta σ H fun vs H1 => ∃ j : Int, vs = [.int j] ∧ -(2 ^ 62) ≤ j ∧ j < 2 ^ 62 ∧ R (Itr 0 j.toNat) H1
theorem pi_range1 {a : Expr} {ta : TA} {p pos : Pos} (hg : Gl X "range") (hm : X.mg "range" = none) (ha : PA X [a] ta) (hs : starEach [a] X.env = [(false, eval a X.env)] := by rfl) : PI X tg (.Call (.Name "range" p) [a] [] pos) (iRng1 ta) := by
  intro pins s σ H R I h
  refine Call_ (ld_blt I hg hm boot_range (PyProof.Rows.callWith_type1 (thn (ha pos pins s σ H _ I h) fun us s1 ⟨vs, H1, I1, r1, q1⟩ => ?_) hs rfl))
  obtain ⟨j, e, q1, q2, q⟩ := q1
  subst e
  cases r1 with
  | cons r rr =>
    cases rr
    obtain ⟨t, rfl⟩ := r
    exact call_range_1 (range_it I1 (by omega) (by omega) q1 q2 (by simpa using q))
/-! ### for -/
/-- W: the invariant by the turn and a measure; N: what the body is to reach -/
noncomputable def tFor (wi : TI) (g : TG) (tb : TS) : TS := fun D σ H => wi σ H fun J H1 => ∃ W : Nat → Nat → St → Hp → Prop, (∃ m, W 0 m σ H1) ∧ ∀ i m σ H, W i m σ H →
  (J.stop i H ∧ D.nx σ H) ∨ (J.go i H ∧ ∃ N : St → Hp → Prop, (∀ σ' H', N σ' H' → ∃ m', m' < m ∧ W (i + 1) m' σ' H') ∧ ∀ x H', J.yld i H x H' → g x σ H' fun σ2 H2 => tb { D with nx := N, ct := N, bk := D.nx } σ2 H2)
/-- the records at fp as they stand -/
noncomputable def pinsAt (fp : List Addr) (h : Heap) : List (Addr × Obj) := fp.filterMap fun b => (h.get? b).map fun o => (b, o)
theorem mem_pinsAt {fp : List Addr} {h : Heap} {b : Addr} {o : Obj} (hb : b ∈ fp) (e : h.get? b = some o) : (b, o) ∈ pinsAt fp h := List.mem_filterMap.mpr ⟨b, hb, by rw [e]; rfl⟩
theorem of_pinsAt {fp : List Addr} {h : Heap} {p : Addr × Obj} (hp : p ∈ pinsAt fp h) : p.1 ∈ fp ∧ h.get? p.1 = some p.2 := by
  obtain ⟨b, hb, e⟩ := List.mem_filterMap.mp hp
  cases q : h.get? b with
  | none => rw [q] at e; cases e
  | some o =>
    rw [q] at e
    have e' : (b, o) = p := Option.some.inj e
    subst e'
    exact ⟨hb, q⟩
theorem Inv.pinned {pins : List (Addr × Obj)} {σ : St} {H : Hp} {s : Shared} {fp : List Addr} (I : Inv X pins σ H s) (hf : ∀ b ∈ fp, FpOk X pins H b) (ho : ∀ b ∈ fp, ∃ o, s.heap.get? b = some o ∧ ∀ v, o.data ≠ .cell v) : Inv X (pins ++ pinsAt fp s.heap) σ H s :=
  I.pins_of fun p hp => (List.mem_append.mp hp).elim (fun z => I.pin p (List.mem_append_right _ z)) fun z => by
    obtain ⟨hb, e⟩ := of_pinsAt z
    obtain ⟨f0, f1, f2, _⟩ := hf p.1 hb
    obtain ⟨o, e', d⟩ := ho p.1 hb
    rw [e] at e'; cases e'
    exact ⟨e, f0, f1, f2, d⟩
theorem Inv.unpinned {pins pl : List (Addr × Obj)} {σ : St} {H : Hp} {s : Shared} (I : Inv X (pins ++ pl) σ H s) : Inv X pins σ H s := I.pins_of fun p hp => I.pin p (List.mem_append_right _ (List.mem_append_left _ hp))
theorem ps_for {iter : Expr} {body : List Stmt} {wi : TI} {g : TG} {tb : TS} {pos : Pos} (hp : PassesOwn (model X.prog X.w) X.A X.env X.xe) (hc : X.calm = true) (hi : PI X tg iter wi) (hg : PG X tg g) (hb : PSs X body tb)
    (hs : ∀ x, foldedSetIterable iter X.env x = pure x := by intro _; rfl) : PS X (.For tg iter body [] pos) (tFor wi g tb) := by
  intro pins s σ H D I h
  refine wpAny_For (thn (hi pins s σ H _ I h) fun v s1 h1 => thn h1 fun itv s2 h2 => ?_) hs
  obtain ⟨it, fp, tn, J, H2, e, I2, T, st2, f2, W, ⟨m0, w0⟩, turn⟩ := h2
  subst e
  -- what stays true of the iterator's objects through the loop
  have stat : ∀ {H' : Hp}, (∀ b ∈ fp, H' b = none) → ∀ b ∈ fp, FpOk X pins H' b := fun hn b hb => ⟨hn b hb, (f2 b hb).2⟩
  refine codeAny_forLoop_any (fun n s' => ∃ i σ' H', Inv X pins σ' H' s' ∧ tn i s'.heap ∧ (∀ b ∈ fp, H' b = none) ∧ W i n σ' H') ?_ m0 ⟨0, σ, H2, I2, st2, fun b hb => (f2 b hb).1, w0⟩
  rintro n s3 ⟨i, σ3, H3, I3, st3, fr3, w3⟩
  rcases turn i n σ3 H3 w3 with ⟨stop, qn⟩ | ⟨go, N, hN, step⟩
  · refine wpAny_passesOwn hp (thn (T.done X rfl rfl rfl hc i pins s3 σ3 H3 X.xe I3 (stat fr3) st3 stop) fun r s4 ⟨hr, I4⟩ => ?_)
    subst hr
    exact wpAny_execs_nil ⟨σ3, H3, I4, qn⟩
  · refine wpAny_passesOwn hp (thn (T.item X rfl rfl rfl hc i pins s3 σ3 H3 X.xe I3 (stat fr3) st3 go) fun r s4 ⟨u, hr, h4⟩ => ?_)
    subst hr
    refine wpAny_passesOwn hp (thn h4 fun _ s5 ⟨x, H5, I5, r5, y5, st5, fr5⟩ => ?_)
    have I5' := I5.pinned (stat fr5) (T.obj _ _ st5)
    refine wpAny_passesOwn hp (thn (hg _ s5 σ3 H5 x u _ I5' r5 (step x H5 y5)) fun _ s6 ⟨σ6, H6, I6, q6⟩ => ?_)
    refine wpAny_passesOwn hp (thn (hb _ s6 σ6 H6 _ I6 q6) fun f s7 q7 => ?_)
    have again : ∀ {σ7 : St} {H7 : Hp}, Inv X (pins ++ pinsAt fp s5.heap) σ7 H7 s7 → N σ7 H7 → ∃ m, m < n ∧ ∃ i σ' H', Inv X pins σ' H' s7 ∧ tn i s7.heap ∧ (∀ b ∈ fp, H' b = none) ∧ W i m σ' H' := fun {σ7 H7} I7 n7 => by
      obtain ⟨m', hm, w7⟩ := hN σ7 H7 n7
      refine ⟨m', hm, i + 1, σ7, H7, I7.unpinned, T.keep _ _ _ st5 fun b hb o e => (I7.pin (b, o) (List.mem_append_right _ (List.mem_append_right _ (mem_pinsAt hb e)))).1, fun b hb => ?_, w7⟩
      obtain ⟨o, e, d⟩ := T.obj _ _ st5 b hb
      exact (I7.pin (b, o) (List.mem_append_right _ (List.mem_append_right _ (mem_pinsAt hb e)))).2.1
    cases f with
    | next => obtain ⟨σ7, H7, I7, n7⟩ := q7; exact again I7 n7
    | cont => obtain ⟨σ7, H7, I7, n7⟩ := q7; exact again I7 n7
    | brk => obtain ⟨σ7, H7, I7, q7⟩ := q7; exact ⟨σ7, H7, I7.unpinned, q7⟩
    | ret v => obtain ⟨x7, σ7, H7, I7, r7, q7⟩ := q7; exact ⟨x7, σ7, H7, I7.unpinned, r7, q7⟩
end

/-! ### the forms one uses -/
/-- over a list that the body leaves as it is -/
theorem for_list {K : PySem.W.Frag} {a : Addr} {xs : List V} {g : TG} {tb : TS} {D : Ends} {σ : St} {H : Hp} (Pv : Nat → St → Hp → Prop) (h0 : Pv 0 σ H) (hl : ∀ i σ H, i ≤ xs.length → Pv i σ H → SqL K H a xs)
    (hs : ∀ i x σ H, xs[i]? = some x → Pv i σ H → g x σ H fun σ2 H2 => tb { D with nx := Pv (i + 1), ct := Pv (i + 1), bk := D.nx } σ2 H2) (hd : ∀ σ H, Pv xs.length σ H → D.nx σ H) :
    ∃ W : Nat → Nat → St → Hp → Prop, (∃ m, W 0 m σ H) ∧ ∀ i m σ H, W i m σ H →
      ((Itl K a).stop i H ∧ D.nx σ H) ∨ ((Itl K a).go i H ∧ ∃ N : St → Hp → Prop, (∀ σ' H', N σ' H' → ∃ m', m' < m ∧ W (i + 1) m' σ' H') ∧ ∀ x H', (Itl K a).yld i H x H' → g x σ H' fun σ2 H2 => tb { D with nx := N, ct := N, bk := D.nx } σ2 H2) := by
  refine ⟨fun i m σ H => m = xs.length - i ∧ i ≤ xs.length ∧ Pv i σ H, ⟨xs.length, by simp, Nat.zero_le _, h0⟩, ?_⟩
  rintro i m σ H ⟨rfl, hi, p⟩
  have q := hl i σ H hi p
  by_cases hlt : i < xs.length
  · refine .inr ⟨⟨xs, xs[i], q, by simp [hlt]⟩, Pv (i + 1), fun σ' H' p' => ⟨xs.length - (i + 1), by omega, rfl, hlt, p'⟩, fun x H' y => ?_⟩
    obtain ⟨e, y⟩ := y
    subst e
    exact hs i x σ _ (y xs q) p
  · have e : i = xs.length := by omega
    subst e
    exact .inl ⟨⟨xs, q, Nat.le_refl _⟩, hd σ H p⟩
theorem for_tup {K : PySem.W.Frag} {a : Addr} {xs : List V} {g : TG} {tb : TS} {D : Ends} {σ : St} {H : Hp} (Pv : Nat → St → Hp → Prop) (h0 : Pv 0 σ H) (hl : ∀ i σ H, i ≤ xs.length → Pv i σ H → SqT K H a xs)
    (hs : ∀ i x σ H, xs[i]? = some x → Pv i σ H → g x σ H fun σ2 H2 => tb { D with nx := Pv (i + 1), ct := Pv (i + 1), bk := D.nx } σ2 H2) (hd : ∀ σ H, Pv xs.length σ H → D.nx σ H) :
    ∃ W : Nat → Nat → St → Hp → Prop, (∃ m, W 0 m σ H) ∧ ∀ i m σ H, W i m σ H →
      ((Itt K a).stop i H ∧ D.nx σ H) ∨ ((Itt K a).go i H ∧ ∃ N : St → Hp → Prop, (∀ σ' H', N σ' H' → ∃ m', m' < m ∧ W (i + 1) m' σ' H') ∧ ∀ x H', (Itt K a).yld i H x H' → g x σ H' fun σ2 H2 => tb { D with nx := N, ct := N, bk := D.nx } σ2 H2) := by
  refine ⟨fun i m σ H => m = xs.length - i ∧ i ≤ xs.length ∧ Pv i σ H, ⟨xs.length, by simp, Nat.zero_le _, h0⟩, ?_⟩
  rintro i m σ H ⟨rfl, hi, p⟩
  have q := hl i σ H hi p
  by_cases hlt : i < xs.length
  · refine .inr ⟨⟨xs, xs[i], q, by simp [hlt]⟩, Pv (i + 1), fun σ' H' p' => ⟨xs.length - (i + 1), by omega, rfl, hlt, p'⟩, fun x H' y => ?_⟩
    obtain ⟨e, y⟩ := y
    subst e
    exact hs i x σ _ (y xs q) p
  · have e : i = xs.length := by omega
    subst e
    exact .inl ⟨⟨xs, q, Nat.le_refl _⟩, hd σ H p⟩
theorem for_range {lo : Int} {n : Nat} {g : TG} {tb : TS} {D : Ends} {σ : St} {H : Hp} (Pv : Nat → St → Hp → Prop) (h0 : Pv 0 σ H)
    (hs : ∀ i σ H, i < n → Pv i σ H → g (.int (lo + i)) σ H fun σ2 H2 => tb { D with nx := Pv (i + 1), ct := Pv (i + 1), bk := D.nx } σ2 H2) (hd : ∀ σ H, Pv n σ H → D.nx σ H) :
    ∃ W : Nat → Nat → St → Hp → Prop, (∃ m, W 0 m σ H) ∧ ∀ i m σ H, W i m σ H →
      ((Itr lo n).stop i H ∧ D.nx σ H) ∨ ((Itr lo n).go i H ∧ ∃ N : St → Hp → Prop, (∀ σ' H', N σ' H' → ∃ m', m' < m ∧ W (i + 1) m' σ' H') ∧ ∀ x H', (Itr lo n).yld i H x H' → g x σ H' fun σ2 H2 => tb { D with nx := N, ct := N, bk := D.nx } σ2 H2) := by
  refine ⟨fun i m σ H => m = n - i ∧ i ≤ n ∧ Pv i σ H, ⟨n, by simp, Nat.zero_le _, h0⟩, ?_⟩
  rintro i m σ H ⟨rfl, hi, p⟩
  by_cases hlt : i < n
  · refine .inr ⟨hlt, Pv (i + 1), fun σ' H' p' => ⟨n - (i + 1), by omega, rfl, hlt, p'⟩, fun x H' y => ?_⟩
    obtain ⟨e, y⟩ := y
    subst e y
    exact hs i σ _ hlt p
  · have e : i = n := by omega
    subst e
    exact .inl ⟨Nat.le_refl _, hd σ H p⟩
end L2

namespace L2
open PySem PySem.Spec PyProof.Rows

noncomputable abbrev R2 := V → V → Hp → VK → Prop
/-- a two-place operation on values: f is binaryOp op, inplaceOp op or compareOp op -/
noncomputable def OpR (X : Cx) (f : Value → Value → Sem Value) (r : R2) : Prop :=
  ∀ (pins : List (Addr × Obj)) (s : Shared) (σ : St) (H : Hp) (x y : V) (v u : Value) (Q : VK), Inv X pins σ H s → RelV x v → RelV y u → r x y H Q →
    wpAny (model X.prog X.w) X.A (f v u) (EP X pins σ Q) X.xe s
/-- a one-place operation -/
noncomputable def UnR (X : Cx) (f : Value → Sem Value) (r : V → Hp → VK → Prop) : Prop :=
  ∀ (pins : List (Addr × Obj)) (s : Shared) (σ : St) (H : Hp) (x : V) (v : Value) (Q : VK), Inv X pins σ H s → RelV x v → r x H Q →
    wpAny (model X.prog X.w) X.A (f v) (EP X pins σ Q) X.xe s
/-- a call of a value that is known (a builtin, a type) with values -/
noncomputable def CallR (X : Cx) (f : Value) (r : List V → Hp → VK → Prop) : Prop :=
  ∀ (pins : List (Addr × Obj)) (s : Shared) (σ : St) (H : Hp) (xs : List V) (us : List Value) (Q : VK), Inv X pins σ H s → Vals xs us → r xs H Q →
    wpAny (model X.prog X.w) X.A (call f us) (EP X pins σ Q) X.xe s
noncomputable def tOp (r : R2) (ta tb : TE) : TE := fun σ H Q => ta σ H fun x H1 => tb σ H1 fun y H2 => r x y H2 Q
noncomputable def tUn (r : V → Hp → VK → Prop) (ta : TE) : TE := fun σ H Q => ta σ H fun x H1 => r x H1 Q
/-- ints in, under C, and a value out -/
noncomputable def rI (C : Int → Int → Prop) (g : Int → Int → V) : R2 := fun x y H Q => ∃ i j, x = .int i ∧ y = .int j ∧ C i j ∧ Q (g i j) H
noncomputable def rI0 (g : Int → Int → V) : R2 := fun x y H Q => ∃ i j, x = .int i ∧ y = .int j ∧ Q (g i j) H
noncomputable def rU (g : Int → V) : V → Hp → VK → Prop := fun x H Q => ∃ i, x = .int i ∧ Q (g i) H

section
variable {X : Cx} {a b c : Expr} {ta tb tc : TE} {pos : Pos}

theorem binT (ha : PE X a ta) (hb : PE X b tb) {pins : List (Addr × Obj)} {s : Shared} {σ : St} {H : Hp} {R : V → V → Hp → Prop} (I : Inv X pins σ H s)
    (h : ta σ H fun x H1 => tb σ H1 fun y H2 => R x y H2) {Q : Value → Shared → Prop} {f : Value → Value → Sem Value}
    (hf : ∀ v u s2 x y H2, Inv X pins σ H2 s2 → RelV x v → RelV y u → R x y H2 → wpAny (model X.prog X.w) X.A (f v u) Q X.xe s2) :
    wpAny (model X.prog X.w) X.A (eval a X.env) (fun v s₁ => wpAny (model X.prog X.w) X.A (eval b X.env) (fun u s₂ => wpAny (model X.prog X.w) X.A (f v u) Q X.xe s₂) X.xe s₁) X.xe s := by
  refine thn (ha pins s σ H _ I h) fun v s1 ⟨x, H1, I1, r1, q1⟩ => ?_
  refine thn (hb pins s1 σ H1 _ I1 q1) fun u s2 ⟨y, H2, I2, r2, q2⟩ => ?_
  exact hf v u s2 x y H2 I2 r1 r2 q2

theorem pe_op {op : Operator} {r : R2} (ho : OpR X (binaryOp op) r) (ha : PE X a ta) (hb : PE X b tb) : PE X (.BinOp a op b pos) (tOp r ta tb) := by
  intro pins s σ H Q I h
  exact wpAny_BinOp (binT ha hb I h fun v u s2 x y H2 I2 rx ry q => ho pins s2 σ H2 x y v u Q I2 rx ry q)
theorem pe_un {op : UnaryOp} {r : V → Hp → VK → Prop} (ho : UnR X (unaryOp op) r) (ha : PE X a ta) : PE X (.UnaryOp op a pos) (tUn r ta) := by
  intro pins s σ H Q I h
  exact UnaryOp_ (thn (ha pins s σ H _ I h) fun v s1 ⟨x, H1, I1, r1, q1⟩ => ho pins s1 σ H1 x v Q I1 r1 q1)
/-! ### ints -/
theorem opI {f : Value → Value → Sem Value} {C : Int → Int → Prop} {g : Int → Int → Int}
    (rule : ∀ (i j : Int) (t u : Tok) (s : Shared) (Q : Value → Shared → Prop) (E : Value → Shared → Prop), C i j → Q (.int (g i j) s.toks) { s with toks := s.toks + 1 } → wpAny (model X.prog X.w) X.A (f (.int i t) (.int j u)) Q E s) :
    OpR X f (rI C fun i j => .int (g i j)) := by
  intro pins s σ H x y v u Q I rx ry h
  obtain ⟨i, j, rfl, rfl, hc, q⟩ := h
  obtain ⟨t, rfl⟩ := rx
  obtain ⟨t', rfl⟩ := ry
  exact rule i j t t' s _ _ hc ⟨.int (g i j), H, I.tok _, ⟨_, rfl⟩, q⟩
theorem opI0 {f : Value → Value → Sem Value} {g : Int → Int → Int}
    (rule : ∀ (i j : Int) (t u : Tok) (s : Shared) (Q : Value → Shared → Prop) (E : Value → Shared → Prop), Q (.int (g i j) s.toks) { s with toks := s.toks + 1 } → wpAny (model X.prog X.w) X.A (f (.int i t) (.int j u)) Q E s) :
    OpR X f (rI0 fun i j => .int (g i j)) := by
  intro pins s σ H x y v u Q I rx ry h
  obtain ⟨i, j, rfl, rfl, q⟩ := h
  obtain ⟨t, rfl⟩ := rx
  obtain ⟨t', rfl⟩ := ry
  exact rule i j t t' s _ _ ⟨.int (g i j), H, I.tok _, ⟨_, rfl⟩, q⟩
theorem opB0 {f : Value → Value → Sem Value} {g : Int → Int → Bool}
    (rule : ∀ (i j : Int) (t u : Tok) (s : Shared) (Q : Value → Shared → Prop) (E : Value → Shared → Prop), Q (.bool (g i j)) s → wpAny (model X.prog X.w) X.A (f (.int i t) (.int j u)) Q E s) :
    OpR X f (rI0 fun i j => .bl (g i j)) := by
  intro pins s σ H x y v u Q I rx ry h
  obtain ⟨i, j, rfl, rfl, q⟩ := h
  obtain ⟨t, rfl⟩ := rx
  obtain ⟨t', rfl⟩ := ry
  exact rule i j t t' s _ _ ⟨.bl (g i j), H, I, rfl, q⟩

noncomputable def CDiv (i j : Int) : Prop := 0 < j ∧ j < 1073741824
noncomputable def CPow (i j : Int) : Prop := 0 ≤ j ∧ j ≤ 1000000 ∧ i.natAbs < 2 ^ 64
noncomputable def CMul (i j : Int) : Prop := (-(2 ^ 64) < i ∧ i < 2 ^ 64) ∨ (-(2 ^ 64) < j ∧ j < 2 ^ 64)
theorem CMul.ok {i j : Int} (h : CMul i j) : IntMulOk i j := by
  rcases h with ⟨h1, h2⟩ | ⟨h1, h2⟩
  · exact .of_left (intBits_le_64 h1 h2)
  · exact .of_right (intBits_le_64 h1 h2)
theorem op_add : OpR X (binaryOp .Add) (rI0 fun i j => .int (i + j)) := opI0 fun _ _ _ _ _ _ _ q => add_int q
theorem op_sub : OpR X (binaryOp .Sub) (rI0 fun i j => .int (i - j)) := opI0 fun _ _ _ _ _ _ _ q => sub_int q
theorem op_mul : OpR X (binaryOp .Mult) (rI CMul fun i j => .int (i * j)) := opI fun _ _ _ _ _ _ _ hc q => mul_int q hc.ok
/-- // by a positive divisor -/
theorem op_fdiv : OpR X (binaryOp .FloorDiv) (rI CDiv fun i j => .int (i / j)) := opI fun i j _ _ _ _ _ hc q => by
  have h1 : (0 : Int) < j := hc.1
  have h2 : j < 1073741824 := hc.2
  exact floordiv_int (by omega) (by rw [Int.fdiv_eq_ediv_of_nonneg i (by omega)]; exact q) (.inl (PyProof.noPylong_small (by omega)))
/-- % by a positive divisor of any size -/
theorem op_mod : OpR X (binaryOp .Mod) (rI (fun _ j => 0 < j) fun i j => .int (i % j)) := opI fun i j _ _ _ _ _ hc q => by
  have h1 : (0 : Int) < j := hc
  exact mod_int' (by omega) (by rw [Int.fmod_eq_emod_of_nonneg i (by omega)]; exact q)
theorem op_pow : OpR X (binaryOp .Pow) (rI CPow fun i j => .int (i ^ j.toNat)) := opI fun _ _ _ _ _ _ _ hc q => pow_int_small hc.1 hc.2.1 hc.2.2 q
theorem op_shl : OpR X (binaryOp .LShift) (rI CPow fun i j => .int (i * 2 ^ j.toNat)) := opI fun _ _ _ _ _ _ _ hc q => lshift_int_small hc.1 hc.2.1 hc.2.2 q
theorem op_or : OpR X (binaryOp .BitOr) (rI0 fun i j => .int (Builtin.bitOr i j)) := opI0 fun _ _ _ _ _ _ _ q => or_int q
theorem unI {f : Value → Sem Value} {g : Int → Int}
    (rule : ∀ (i : Int) (t : Tok) (s : Shared) (Q : Value → Shared → Prop) (E : Value → Shared → Prop), Q (.int (g i) s.toks) { s with toks := s.toks + 1 } → wpAny (model X.prog X.w) X.A (f (.int i t)) Q E s) :
    UnR X f (rU fun i => .int (g i)) := by
  intro pins s σ H x v Q I rx h
  obtain ⟨i, rfl, q⟩ := h
  obtain ⟨t, rfl⟩ := rx
  exact rule i t s _ _ ⟨.int (g i), H, I.tok _, ⟨_, rfl⟩, q⟩
theorem un_neg : UnR X (unaryOp .USub) (rU fun i => .int (-i)) := unI fun _ _ _ _ _ q => neg_int q
/-! ### bools among ints: n += (a < b) -/
end

/-! ### comparisons -/
/-- the scalars that == tells apart as data does -/
noncomputable def scal : V → V → Bool
  | .non, .non => true | .non, .int _ => true | .int _, .non => true | .non, .bl _ => true | .bl _, .non => true | .non, .str _ => true | .str _, .non => true
  | .int _, .int _ => true | .bl _, .bl _ => true | .str _, .str _ => true | .byt _, .byt _ => true
  | .int _, .str _ => true | .str _, .int _ => true | .bl _, .str _ => true | .str _, .bl _ => true
  | _, _ => false
noncomputable def rEq : R2 := fun x y H Q => scal x y = true ∧ Q (.bl (decide (x = y))) H
noncomputable def rNe : R2 := fun x y H Q => scal x y = true ∧ Q (.bl (!decide (x = y))) H

theorem dec_int {i j : Int} : decide (V.int i = V.int j) = (i == j) := by
  rw [Bool.eq_iff_iff]
  simp
theorem dec_bl {i j : Bool} : decide (V.bl i = V.bl j) = (i == j) := by
  rw [Bool.eq_iff_iff]
  simp
theorem dec_str {i j : Str} : decide (V.str i = V.str j) = (i == j) := by
  rw [Bool.eq_iff_iff]
  simp
theorem dec_byt {i j : Array UInt8} : decide (V.byt i = V.byt j) = (i.toList == j.toList) := by
  rw [Bool.eq_iff_iff]
  cases i
  cases j
  simp

section
variable {X : Cx} {a b c : Expr} {ta tb tc : TE} {pos : Pos}
theorem fin_bl {pins : List (Addr × Obj)} {σ : St} {H : Hp} {s : Shared} {Q : VK} {k k' : Bool} (I : Inv X pins σ H s) (q : Q (.bl k) H) (e : k = k') : EP X pins σ Q (.bool k') s := by
  subst e
  exact ⟨.bl k, H, I, rfl, q⟩
theorem op_eq : OpR X (compareOp .Eq) rEq := by
  intro pins s σ H x y v u Q I rx ry h
  obtain ⟨hs, q⟩ := h
  cases x with
  | non =>
    cases rx
    cases y with
    | non => cases ry; exact PySem.EqNone.eq_none_none (fin_bl I q (by simp))
    | bl j => cases ry; exact PySem.EqNone.eq_none_bool (fin_bl I q (by simp))
    | int j => obtain ⟨t', rfl⟩ := ry; exact PySem.EqNone.eq_none_int (fin_bl I q (by simp))
    | str j => obtain ⟨t', rfl⟩ := ry; exact PySem.EqNone.eq_none_str (fin_bl I q (by simp))
    | _ => exact absurd (show false = true from hs) Bool.false_ne_true
  | bl i =>
    cases rx
    cases y with
    | non => cases ry; exact PySem.EqNone.eq_bool_none (fin_bl I q (by simp))
    | bl j => cases ry; exact eq_bool (fin_bl I q dec_bl)
    | str j => obtain ⟨t', rfl⟩ := ry; exact PySem.EqMixed.eq_bool_str (fin_bl I q (by simp))
    | _ => exact absurd (show false = true from hs) Bool.false_ne_true
  | int i =>
    obtain ⟨t, rfl⟩ := rx
    cases y with
    | non => cases ry; exact PySem.EqNone.eq_int_none (fin_bl I q (by simp))
    | int j => obtain ⟨t', rfl⟩ := ry; exact eq_int (fin_bl I q dec_int)
    | str j => obtain ⟨t', rfl⟩ := ry; exact PySem.EqMixed.eq_int_str (fin_bl I q (by simp))
    | _ => exact absurd (show false = true from hs) Bool.false_ne_true
  | str i =>
    obtain ⟨t, rfl⟩ := rx
    cases y with
    | non => cases ry; exact PySem.EqNone.eq_str_none (fin_bl I q (by simp))
    | bl j => cases ry; exact PySem.EqMixed.eq_str_bool (fin_bl I q (by simp))
    | int j => obtain ⟨t', rfl⟩ := ry; exact PySem.EqMixed.eq_str_int (fin_bl I q (by simp))
    | str j => obtain ⟨t', rfl⟩ := ry; exact eq_str (fin_bl I q dec_str)
    | _ => exact absurd (show false = true from hs) Bool.false_ne_true
  | byt i =>
    obtain ⟨t, rfl⟩ := rx
    cases y with
    | byt j => obtain ⟨t', rfl⟩ := ry; exact PySem.W.eq_bytes (fin_bl I q dec_byt)
    | _ => exact absurd (show false = true from hs) Bool.false_ne_true
  | _ => cases y <;> exact absurd (show false = true from hs) Bool.false_ne_true
theorem op_ne : OpR X (compareOp .NotEq) rNe := by
  intro pins s σ H x y v u Q I rx ry h
  obtain ⟨hs, q⟩ := h
  cases x with
  | non =>
    cases rx
    cases y with
    | non => cases ry; exact PySem.EqNone.ne_none_none (fin_bl I q (by simp))
    | bl j => cases ry; exact PySem.EqNone.ne_none_bool (fin_bl I q (by simp))
    | int j => obtain ⟨t', rfl⟩ := ry; exact PySem.EqNone.ne_none_int (fin_bl I q (by simp))
    | str j => obtain ⟨t', rfl⟩ := ry; exact PySem.EqNone.ne_none_str (fin_bl I q (by simp))
    | _ => exact absurd (show false = true from hs) Bool.false_ne_true
  | bl i =>
    cases rx
    cases y with
    | non => cases ry; exact PySem.EqNone.ne_bool_none (fin_bl I q (by simp))
    | bl j => cases ry; exact ne_bool (fin_bl I q (congrArg not dec_bl))
    | str j => obtain ⟨t', rfl⟩ := ry; exact PySem.EqMixed.ne_bool_str (fin_bl I q (by simp))
    | _ => exact absurd (show false = true from hs) Bool.false_ne_true
  | int i =>
    obtain ⟨t, rfl⟩ := rx
    cases y with
    | non => cases ry; exact PySem.EqNone.ne_int_none (fin_bl I q (by simp))
    | int j => obtain ⟨t', rfl⟩ := ry; exact ne_int (fin_bl I q (congrArg not dec_int))
    | str j => obtain ⟨t', rfl⟩ := ry; exact PySem.EqMixed.ne_int_str (fin_bl I q (by simp))
    | _ => exact absurd (show false = true from hs) Bool.false_ne_true
  | str i =>
    obtain ⟨t, rfl⟩ := rx
    cases y with
    | non => cases ry; exact PySem.EqNone.ne_str_none (fin_bl I q (by simp))
    | bl j => cases ry; exact PySem.EqMixed.ne_str_bool (fin_bl I q (by simp))
    | int j => obtain ⟨t', rfl⟩ := ry; exact PySem.EqMixed.ne_str_int (fin_bl I q (by simp))
    | str j => obtain ⟨t', rfl⟩ := ry; exact ne_str (fin_bl I q (congrArg not dec_str))
    | _ => exact absurd (show false = true from hs) Bool.false_ne_true
  | byt i =>
    obtain ⟨t, rfl⟩ := rx
    cases y with
    | byt j => obtain ⟨t', rfl⟩ := ry; exact PySem.W.ne_bytes (fin_bl I q (congrArg not dec_byt))
    | _ => exact absurd (show false = true from hs) Bool.false_ne_true
  | _ => cases y <;> exact absurd (show false = true from hs) Bool.false_ne_true

theorem op_lt : OpR X (compareOp .Lt) (rI0 fun i j => .bl (decide (i < j))) := opB0 fun _ _ _ _ _ _ _ q => lt_int q
theorem op_le : OpR X (compareOp .LtE) (rI0 fun i j => .bl (decide (i ≤ j))) := opB0 fun _ _ _ _ _ _ _ q => le_int q
theorem op_gt : OpR X (compareOp .Gt) (rI0 fun i j => .bl (decide (j < i))) := opB0 fun _ _ _ _ _ _ _ q => gt_int q
theorem nomark (b : Expr) {op : CmpOp} (h : op ≠ .In := by decide) (h2 : op ≠ .NotIn := by decide) : behindInMarks op b = false := by
  have e1 : (op == CmpOp.In) = false := by cases op <;> first | rfl | exact absurd rfl h
  have e2 : (op == CmpOp.NotIn) = false := by cases op <;> first | rfl | exact absurd rfl h2
  cases b <;> simp [behindInMarks, e1, e2]
/-- a comparison as a value; hm: nomark b, or (for in, not in) by with_unfolding_all rfl -/
theorem pe_cmpR {op : CmpOp} {r : R2} (ho : OpR X (compareOp op) r) (ha : PE X a ta) (hb : PE X b tb) (hm : behindInMarks op b = false) : PE X (.Compare a [op] [b] pos) (tOp r ta tb) := by
  intro pins s σ H Q I h
  exact wpAny_Compare1 (binT ha hb I h fun v u s2 x y H2 I2 rx ry q => ho pins s2 σ H2 x y v u Q I2 rx ry q) hm
/-- a reading of a value as a test -/
noncomputable def tTest (t : TE) : TT := fun σ H Q => t σ H fun x H' => ∃ k, x = .bl k ∧ Q k H'
theorem pt_cmpR {op : CmpOp} {r : R2} (ho : OpR X (compareOp op) r) (ha : PE X a ta) (hb : PE X b tb) (hm : behindInMarks op b = false) : PT X (.Compare a [op] [b] pos) (tTest (tOp r ta tb)) := by
  intro pins s σ H Q I h
  refine wpAny_isTrue_Compare1 (thn (ha pins s σ H _ I h) fun v s1 ⟨x, H1, I1, r1, q1⟩ => thn (hb pins s1 σ H1 _ I1 q1) fun u s2 ⟨y, H2, I2, r2, q2⟩ =>
    thn (ho pins s2 σ H2 x y v u _ I2 r1 r2 q2) fun c s3 ⟨z, H3, I3, r3, k, e, q3⟩ => ?_) hm
  subst e
  cases r3
  exact wpAny_truthy_bool ⟨H3, I3, q3⟩
/-- a op1 b op2 c -/
noncomputable def tChain (r r' : R2) (ta tb tc : TE) : TE := fun σ H Q => ta σ H fun x H1 => tb σ H1 fun y H2 => r x y H2 fun z H3 => ∃ k, z = .bl k ∧
  (if k = true then tc σ H3 fun w' H4 => r' y w' H4 Q else Q (.bl false) H3)
theorem pe_chain {op op' : CmpOp} {r r' : R2} (ho : OpR X (compareOp op) r) (ho' : OpR X (compareOp op') r') (ha : PE X a ta) (hb : PE X b tb) (hc : PE X c tc)
    (hm : lastMarks [op, op'] [b, c] = false := by with_unfolding_all rfl) : PE X (.Compare a [op, op'] [b, c] pos) (tChain r r' ta tb tc) := by
  intro pins s σ H Q I h
  refine Compare_chain (thn (ha pins s σ H _ I h) fun v s1 ⟨x, H1, I1, r1, q1⟩ => chain_link (thn (hb pins s1 σ H1 _ I1 q1) fun u s2 ⟨y, H2, I2, r2, q2⟩ =>
    thn (ho pins s2 σ H2 x y v u _ I2 r1 r2 q2) fun d s3 ⟨z, H3, I3, r3, k, e, q3⟩ => ?_)) hm
  subst e
  cases r3
  refine wpAny_truthy_bool ?_
  cases k with
  | false => exact ite_ff ⟨.bl false, H3, I3, rfl, q3⟩
  | true => exact ite_tt (chain_last (thn (hc pins s3 σ H3 _ I3 q3) fun w' s4 ⟨z', H4, I4, r4, q4⟩ => ho' pins s4 σ H4 y z' u w' Q I4 r2 r4 q4))
/-! ### truth -/
theorem line63 : (sizeLine : Nat) < 2 ^ 63 := by rw [sizeLine_eq]; decide
/-! ### strs and bytes -/
/-! ### scalar builtins, by CallR -/
theorem vals1 {x : V} {us : List Value} (r : Vals [x] us) : ∃ u, us = [u] ∧ RelV x u := by
  cases r with
  | cons r1 r2 => cases r2; exact ⟨_, rfl, r1⟩
theorem vals2 {x y : V} {us : List Value} (r : Vals [x, y] us) : ∃ u w', us = [u, w'] ∧ RelV x u ∧ RelV y w' := by
  cases r with
  | cons r1 r2 =>
    cases r2 with
    | cons r3 r4 => cases r4; exact ⟨_, _, rfl, r1, r3⟩
end
end L2

namespace L2
open PySem PySem.Spec PyProof.Rows

/-! ### an instance, its attributes a map -/
structure ObjM (h : Heap) (x dx C : Addr) (mA : Str → Option Value) : Prop where
  obj : h.get? x = some (PySem.W.instObj C dx)
  ns : h.Ns1 dx mA
  ne : dx ≠ x

theorem lookIn_ns {h : Heap} {dx : Addr} {mA : Str → Option Value} (n : h.Ns1 dx mA) : ∃ od, h.get? dx = some od ∧ ∀ name, PySem.W.lookIn name od = some (mA name) := by
  obtain ⟨o, es, ep, ho, hd, hk, _, hm⟩ := n
  refine ⟨o, ho, fun name => ?_⟩
  have e := hm name
  unfold nsFind findBy at e
  rw [← Array.find?_toList] at e
  unfold PySem.W.lookIn
  rw [hd]
  dsimp only
  split
  · rename_i y q
    rw [q] at e
    exact congrArg some e
  · rename_i q
    rw [q] at e
    have a : es.toList.any (·.refKey) = false := by
      rw [List.any_eq_false]
      intro y hy
      obtain ⟨z, t, hkey⟩ := hk y (Array.mem_toList_iff.mp hy)
      simp [DictEntry.refKey, hkey]
    have a' : ¬ es.toList.any (·.refKey) = true := by rw [a]; exact Bool.false_ne_true
    rw [if_neg a']
    exact congrArg some e

theorem ObjM.look {h : Heap} {x dx C : Addr} {mA : Str → Option Value} (I : ObjM h x dx C mA) : ∃ od, PySem.W.InstAt h x (PySem.W.instObj C dx) C (some od) ∧ ∀ name, PySem.W.lookIn name od = some (mA name) :=
  let ⟨od, ho, hl⟩ := lookIn_ns I.ns
  ⟨od, ⟨I.obj, rfl, rfl, ho⟩, hl⟩

section
variable {prog : Program} {w : World} {A : Around} {E : Value → Shared → Prop} {s : Shared} {K : PySem.W.Frag} {x dx C f : Addr} {mA : Str → Option Value} {name : Str} {v : Value}

end

/-! ### the attributes as a list of pairs -/
theorem RelO.some_of {v : V} {o : Option Value} (r : RelO (some v) o) : ∃ u, o = some u ∧ RelV v u := by
  cases o with
  | none => exact (show False from r).elim
  | some u => exact ⟨u, rfl, r⟩
theorem handed_of {v : V} {u : Value} (r : RelV v u) : PySem.W.handedIn u = true := by
  cases v with
  | non => cases (show u = Value.none from r); rfl
  | bl b => cases (show u = Value.bool b from r); rfl
  | int i => obtain ⟨t, e⟩ := (show ∃ t, u = Value.int i t from r); cases e; rfl
  | str x => obtain ⟨t, e⟩ := (show ∃ t, u = Value.str x t from r); cases e; rfl
  | byt b => obtain ⟨t, e⟩ := (show ∃ t, u = Value.bytes b t from r); cases e; rfl
  | flt b => obtain ⟨t, e⟩ := (show ∃ t, u = Value.float b t from r); cases e; rfl
  | ref a => cases (show u = Value.ref a from r); rfl
  | ty n => cases (show u = Value.type n from r); rfl

section
variable {P : Program} {w : World} {H H' : Hp} {h h' : Heap} {a C dx : Addr} {fs fs' : List (Str × V)}
theorem ins_get (hok : HOk P w H h) (e : H a = some (.ins C dx fs)) : ∃ mA, ObjM h a dx C mA ∧ (∀ f, RelO (fs.lookup f) (mA f)) ∧ PySem.Within mA (fs.map (·.1)) ∧ fs.length ≤ 1000 ∧ H dx = some (.own a) := by
  obtain ⟨d, z, ne, ob, mA, n, r, q⟩ := (show ObjOk P w H h a (.ins C dx fs) from hok a _ e)
  exact ⟨mA, ⟨ob, n, ne⟩, r, q, z, d⟩
end

/-! ### what of the text a class must have -/
structure Cls (K : PySem.W.Frag) (C : Addr) : Prop where
  pg : PySem.W.plainGet K C Str.empty = true
  hd : PySem.W.hasDictIn K C = true
  po : PySem.W.plainOver K C = true
  sa : PySem.W.findIn K (.ref C) "__setattr__" = some (some (.builtin "object.__setattr__"))
theorem Cls.get {K : PySem.W.Frag} {C : Addr} (c : Cls K C) (f : Str) : PySem.W.plainGet K C f = true := c.pg
section
variable {X : Cx} {pins : List (Addr × Obj)} {σ : St} {H : Hp} {s : Shared} {a C dx : Addr} {fs : List (Str × V)} {f : Str} {v : V} {A : Around} {E : Value → Shared → Prop}

/-- e.f where nothing but the object is asked: through attributeBase (super) and the last hold -/
theorem attr_of {prog : Program} {w : World} {env : Env} {e : Expr} {f : Str} {pos : Pos} {s : Shared} {Q : Value → Shared → Prop} (hb : attributeBase e f env (eval e env) = eval e env)
    (h : wpAny (model prog w) A (eval e env) (fun o s₁ => wpAny (model prog w) A (getAttr o f true) Q E s₁) E s) : wpAny (model prog w) A (eval (.Attribute e f pos) env) Q E s :=
  Attribute_any_ h (by rw [arm_eval_Attribute, hb])
end

/-! ### readings and rules -/
section
variable {X : Cx} {o e value : Expr} {f : Str} {pos pos' tpos : Pos} {ta tv : TE}
end

/-! ### isinstance -/
section
variable {X : Cx} {pins : List (Addr × Obj)} {σ : St} {H : Hp} {s : Shared} {A : Around} {E : Value → Shared → Prop} {Q : Value → Shared → Prop} {c : Value} {b : Bool}
/-- the type of a value, as the fragment's deciders take it; for an instance its class -/
inductive TyOf (K : PySem.W.Frag) (H : Hp) : V → Value → Prop where
  | non : TyOf K H .non (.type "NoneType")
  | bl (x : Bool) : TyOf K H (.bl x) (.type "bool")
  | int (i : Int) : TyOf K H (.int i) (.type "int")
  | str (x : Str) : TyOf K H (.str x) (.type "str")
  | flt (x : UInt64) : TyOf K H (.flt x) (.type "float")
  | lst {a : Addr} {xs : List V} (e : H a = some (.lst xs)) : TyOf K H (.ref a) (.type "list")
  | frz {a : Addr} {o : Obj} {xs : List V} (e : H a = some (.frz o (.lst xs))) : TyOf K H (.ref a) (.type "list")
  | tup {a : Addr} {xs : List V} (e : H a = some (.tup xs)) : TyOf K H (.ref a) (.type "tuple")
  | dK {a : Addr} {kvs : List (Key × V)} (e : H a = some (.dK kvs)) : TyOf K H (.ref a) (.type "dict")
  | dT {a : Addr} {kvs : List (List Key × V)} (e : H a = some (.dT kvs)) : TyOf K H (.ref a) (.type "dict")
  | ins {a C dx : Addr} {fs : List (Str × V)} (e : H a = some (.ins C dx fs)) (cl : Cls K C) (ha : PySem.W.findIn K (.ref C) "__class__" = some (some (.builtin "object.__class__")))
      (hn : PySem.W.specialIn K (.builtin "object.__class__") "__get__" = some (some (.builtin "getset_descriptor.__get__"))) (htk : PySem.W.takesIn K (.builtin "object.__class__") = some true)
      (hm : PySem.W.mroIn K C (.type "object") = some true) : TyOf K H (.ref a) (.ref C)
/-- isinstance(x, c) for one class c, a built-in or an own one: kitOne's answer -/
theorem isinst_ok {x : V} {u t : Value} (I : Inv X pins σ H s) (rx : RelV x u) (ty : TyOf X.K H x t) (e : PySem.W.kitOne X.K t c = some b) (h : ∀ tk, Q (.bool b) { s with toks := tk }) :
    wpAny (model X.prog X.w) A (call (.builtin "isinstance") [u, c]) Q E s := by
  cases ty with
  | non => cases (show u = Value.none from rx); exact PySem.W.kia_one PySem.W.kitx_none I.kIn True.intro e (fun z => nomatch z) h
  | bl y => cases (show u = Value.bool y from rx); exact PySem.W.kia_one PySem.W.kitx_bool I.kIn True.intro e (fun z => nomatch z) h
  | int i => obtain ⟨t, q⟩ := (show ∃ t, u = Value.int i t from rx); cases q; exact PySem.W.kia_one PySem.W.kitx_int I.kIn True.intro e (fun z => nomatch z) h
  | str y => obtain ⟨t, q⟩ := (show ∃ t, u = Value.str y t from rx); cases q; exact PySem.W.kia_one PySem.W.kitx_str I.kIn True.intro e (fun z => nomatch z) h
  | flt y => obtain ⟨t, q⟩ := (show ∃ t, u = Value.float y t from rx); cases q; exact PySem.W.kia_one PySem.W.kitx_float I.kIn True.intro e (fun z => nomatch z) h
  | @lst a xs ea =>
    cases (show u = Value.ref a from rx)
    obtain ⟨_, _, n, _, h1⟩ := (show ObjOk X.prog X.w H s.heap a (.lst xs) from I.hok a _ ea)
    exact PySem.W.kia_one PySem.W.kitx_list I.kIn ⟨_, h1, rfl⟩ e (fun z => nomatch z) h
  | @frz a ob xs ea =>
    cases (show u = Value.ref a from rx)
    obtain ⟨_, _, _, n, _, h1⟩ := (show ObjOk X.prog X.w H s.heap a (.frz ob (.lst xs)) from I.hok a _ ea)
    exact PySem.W.kia_one PySem.W.kitx_list I.kIn ⟨_, h1, rfl⟩ e (fun z => nomatch z) h
  | @tup a xs ea =>
    cases (show u = Value.ref a from rx)
    obtain ⟨_, _, _, p⟩ := (show ObjOk X.prog X.w H s.heap a (.tup xs) from I.hok a _ ea)
    obtain ⟨o, h1, h2, _⟩ := p
    exact PySem.W.kia_one PySem.W.kitx_tuple I.kIn ⟨o, h1, h2⟩ e (fun z => nomatch z) h
  | @dK a kvs ea =>
    cases (show u = Value.ref a from rx)
    obtain ⟨_, _, vs, _, p⟩ := (show ObjOk X.prog X.w H s.heap a (.dK kvs) from I.hok a _ ea)
    obtain ⟨o, es, ep, h1, h2, _⟩ := p
    exact PySem.W.kia_one PySem.W.kitx_dict I.kIn ⟨o, h1, h2.1⟩ e (fun z => nomatch z) h
  | @dT a kvs ea =>
    cases (show u = Value.ref a from rx)
    obtain ⟨_, _, xs, _, o, es, ep, h1, h2, _⟩ := (show ObjOk X.prog X.w H s.heap a (.dT kvs) from I.hok a _ ea)
    exact PySem.W.kia_one PySem.W.kitx_dict I.kIn ⟨o, h1, h2.1⟩ e (fun z => nomatch z) h
  | @ins a C dx fs ea cl ha hn htk hm =>
    cases (show u = Value.ref a from rx)
    obtain ⟨mA, O, _⟩ := ins_get I.hok ea
    obtain ⟨od, J, _⟩ := O.look
    exact PySem.W.kia_one (PySem.W.kitx_own (cl.get _) cl.hd ha hn htk hm) I.kIn J e (fun z => nomatch z) h
end
end L2

namespace L2
open PySem PySem.Spec PyProof.Rows

/-! ### room -/
structure Room (k : Nat) (A : Around) : Prop where
  hd : A.handled = none
  dp : A.depth + 3 * k + 5 < recursionLimit
  un : A.units + 16 * k + 200 < cLine
theorem Room.mono {j k : Nat} {A : Around} (r : Room k A) (h : j ≤ k) : Room j A := ⟨r.hd, by have := r.dp; omega, by have := r.un; omega⟩
theorem Room.deeper {k : Nat} {A : Around} (r : Room (k + 1) A) (env : Env) : Room k (A.deeper env) :=
  ⟨r.hd, by have := r.dp; show A.depth + 1 + 3 * k + 5 < _; omega, by have := r.un; show A.units + 3 + 16 * k + 200 < _; omega⟩
theorem make_depth {A : Around} {C : Addr} {us : List Value} {kw : List (Str × Value)} : (A.under (.builtin "type.__call__" ⟨.ref C :: us, kw⟩)).depth = A.depth + 1 := by
  first | rfl | simp [Around.under, Code.weight, Code.isCreation, Code.isGuard, Code.isCaller, Code.frames, Code.isFrame, guardIds]
theorem make_units {A : Around} {C : Addr} {us : List Value} {kw : List (Str × Value)} : (A.under (.builtin "type.__call__" ⟨.ref C :: us, kw⟩)).units = A.units + 1 := by
  first | rfl | simp [Around.under, Code.cUnits, Code.frames, Code.isFrame]
theorem Room.make {k : Nat} {A : Around} (r : Room (k + 1) A) (C : Addr) (us : List Value) (kw : List (Str × Value)) : Room k (A.under (.builtin "type.__call__" ⟨.ref C :: us, kw⟩)) :=
  ⟨r.hd, by have := r.dp; rw [make_depth]; omega, by have := r.un; rw [make_units]; omega⟩
theorem Room.depth {k : Nat} {A : Around} (r : Room k A) : A.depth < recursionLimit := by have := r.dp; omega
theorem Room.units {k : Nat} {A : Around} (r : Room k A) : A.units + 64 < cLine := by have := r.un; omega
/-! ### argument lists and displays -/
noncomputable def tNil : TA := fun _ H Q => Q [] H
noncomputable def tCons (ta : TE) (tr : TA) : TA := fun σ H Q => ta σ H fun x H1 => tr σ H1 fun xs H2 => Q (x :: xs) H2
section
variable {X : Cx} {e : Expr} {es : List Expr} {te : TE} {t : TA} {pos : Pos}
theorem pa_nil : PA X [] tNil := fun _ _ _ _ H Q I h => Calls.spliced_nil ⟨[], H, I, .nil, h⟩
theorem pa_cons (ha : PE X e te) (hr : PA X es t) (hs : starEach (e :: es) X.env = (false, eval e X.env) :: starEach es X.env := by rfl) : PA X (e :: es) (tCons te t) := by
  intro pos pins s σ H Q I h
  rw [hs]
  show wpAny _ _ (spliced ((false, eval e X.env) :: backTo pos (starEach es X.env))) _ _ s
  refine Calls.spliced_cons (thn (ha pins s σ H _ I h) fun u s1 ⟨x, H1, I1, r1, q1⟩ => ?_)
  exact thn (hr pos pins s1 σ H1 _ I1 q1) fun us s2 ⟨xs, H2, I2, r2, q2⟩ => ⟨x :: xs, H2, I2, .cons r1 r2, q2⟩

/-- a tuple, a list of written items -/
noncomputable def tTup (t : TA) : TE := fun σ H Q => t σ H fun xs H1 => xs.length ≤ sizeLine ∧ ∀ p, H1 p = none → Q (.ref p) (upd H1 p (.tup xs))
noncomputable def tLst (t : TA) : TE := fun σ H Q => t σ H fun xs H1 => xs.length ≤ sizeLine ∧ ∀ p, H1 p = none → Q (.ref p) (upd H1 p (.lst xs))
theorem pe_tup {x1} (h : PA X es t) : PE X (.Tuple es x1 pos) (tTup t) := by
  intro pins s σ H Q I hq
  refine wpAny_Tuple_spliced (thn (h pos pins s σ H _ I hq) fun us s1 ⟨xs, H1, I1, r, z, q⟩ => ⟨by rw [← r.length]; exact z, ?_⟩)
  have hf : H1 s1.heap.objs.size = none := I1.hok.fresh (Nat.le_refl _)
  refine ⟨.ref s1.heap.objs.size, upd H1 s1.heap.objs.size (.tup xs), I1.laid (t' := s1.toks) (fun b u e => Heap.get?_push_of_some _ e) (Nat.le_refl _) ?_, rfl, q _ hf⟩
  exact ⟨z, us, r, ⟨_, Heap.get?_push_size _ rfl, rfl, _, rfl⟩⟩
theorem pe_lst (h : PA X es t) : PE X (.List es pos) (tLst t) := by
  intro pins s σ H Q I hq
  refine wpAny_List_spliced (thn (h pos pins s σ H _ I hq) fun us s1 ⟨xs, H1, I1, r, z, q⟩ => ⟨by rw [← r.length]; exact z, ?_⟩)
  have hf : H1 s1.heap.objs.size = none := I1.hok.fresh (Nat.le_refl _)
  refine ⟨.ref s1.heap.objs.size, upd H1 s1.heap.objs.size (.lst xs), I1.laid (t' := s1.toks) (fun b u e => Heap.get?_push_of_some _ e) (Nat.le_refl _) ?_, rfl, q _ hf⟩
  exact ⟨z, us, 0, r, Heap.get?_push_size _ rfl⟩
end

/-! ### what a def promises -/
/-- a def's promise: the bound arguments in the parameters' order, the heap, the wanted end, the wanted exception -/
noncomputable abbrev Sp := List V → Hp → VK → XK → Prop
/-- how an exception lies behind a call (file 08 gives it): the callers' frames, abstract heap and state ahead of the call, the wish, the exception, the state -/
noncomputable abbrev CXT := List Env → Hp → Shared → XK → Value → Shared → Prop

/-- the state at a call -/
structure Env0 (P : Program) (w : World) (K : PySem.W.Frag) (mg : Str → Option Value) (base : Heap) (A : Around) (outer : List Env) (s : Shared) (H : Hp) : Prop where
  frames : A.frames = some outer
  mod : Mod K mg base
  bs : ∀ b o, base.get? b = some o → s.heap.get? b = some o ∧ H b = none
  bsz : base.objs.size ≤ s.heap.objs.size
  funs : s.heap.FunFrames base outer
  frf : ∀ b ∈ frs outer, H b = none
  hok : HOk P w H s.heap
  bare : AllBare s.gens
/-- a call's end -/
noncomputable def CE (outer : List Env) (P : Program) (w : World) (H : Hp) (s : Shared) (Q : VK) (u : Value) (s' : Shared) : Prop :=
  ∃ v H', s'.os = s.os ∧ AllBare s'.gens ∧ Un (frs outer) [] H H' s.heap s'.heap ∧ HOk P w H' s'.heap ∧ RelV v u ∧ Q v H'
noncomputable def CR (CX : CXT) (outer : List Env) (P : Program) (w : World) (H : Hp) (s : Shared) (Q : VK) (E : XK) (r : Result) (s' : Shared) : Prop :=
  match r with
  | .ok (.ret u) => CE outer P w H s Q u s'
  | .ok _ => False
  | .error e => CX outer H s E e s'
structure FnOk (P : Program) (w : World) (K : PySem.W.Frag) (mg : Str → Option Value) (base : Heap) (CX : CXT) (k : Nat) (f : Addr) (fd : FuncData) (ps : List Str) (sp : Sp) : Prop where
  len : ∀ vs H Q E, sp vs H Q E → vs.length = ps.length
  run : ∀ (A : Around) (outer : List Env) (s : Shared) (H : Hp) (args : Args) (us : List Value) (vs : List V) (Q : VK) (E : XK), Room k A → Env0 P w K mg base A outer s H → BindsTo s fd args (ps.zip us) → Vals vs us → sp vs H Q E →
    codeAny (model P w) A (.call (.ref f) args) (CR CX outer P w H s Q E) s
theorem Env0.make {P : Program} {w : World} {K : PySem.W.Frag} {mg : Str → Option Value} {base : Heap} {A : Around} {outer : List Env} {s : Shared} {H : Hp} (e : Env0 P w K mg base A outer s H) (C : Addr) (us : List Value) (kw : List (Str × Value)) :
    Env0 P w K mg base (A.under (.builtin "type.__call__" ⟨.ref C :: us, kw⟩)) outer s H := ⟨by first | exact e.frames | (simpa [Around.under, Code.envs, Code.isFrame, pushEnvs] using e.frames), e.mod, e.bs, e.bsz, e.funs, e.frf, e.hok, e.bare⟩
section
variable {X : Cx} {pins : List (Addr × Obj)} {σ : St} {H : Hp} {s s' : Shared}
/-- from a body: what a callee wants -/
theorem Inv.env0 (I : Inv X pins σ H s) : Env0 X.prog X.w X.K X.mg X.base X.A X.stack s H :=
  ⟨I.ok.frames, I.ok.mod, I.bs, Nat.le_trans I.ok.bsz I.sz, I.stack, I.stkFree, I.hok, I.bare⟩
/-- behind a call -/
theorem Inv.after {Q : VK} {u : Value} (I : Inv X pins σ H s) (h : CE X.stack X.prog X.w H s Q u s') : EP X pins σ Q u s' := by
  obtain ⟨v, H', os, bare, un, hok, r, q⟩ := h
  obtain ⟨hh, g, d, t, os'⟩ := s'
  obtain rfl : os' = s.os := os
  exact ⟨v, H', I.call (h' := hh) (g' := g) (d' := d) (t' := t) (ch := []) un hok bare (fun b z => absurd z (by simp)), r, q⟩
end

/-! ### calls -/
/-- f(..): the written arguments, then the defaults dvs; E: what is wanted of an exception -/
noncomputable def tCall (sp : Sp) (dvs : List V) (E : XK) (t : TA) : TE := fun σ H Q => t σ H fun vs H1 => sp (vs ++ dvs) H1 Q E
/-- how the parameters are bound: us the positional arguments, kw the keywords' values by name, ds the defaults that fill up -/
noncomputable def Binds (K : PySem.W.Frag) (fd : FuncData) (ps : List Str) (ds : List Value) : Prop :=
  ∀ (s : Shared) (us : List Value), K.In s.heap → (us ++ ds).length = ps.length → BindsTo s fd ⟨us, []⟩ (ps.zip (us ++ ds))
/-- every parameter is given -/
theorem Binds.all {K : PySem.W.Frag} {fd : FuncData} {ps : List Str} (h : ∀ us : List Value, us.length = ps.length → bindArgs fd ⟨us, []⟩ = pure (ps.zip us)) : Binds K fd ps [] := fun s us _ hl => by
  rw [List.append_nil] at hl ⊢
  exact .of_eq (h us hl)

/-- an exception of a callee reaches what this body wants of exceptions -/
noncomputable def Passes (CX : CXT) (X : Cx) (E : XK) : Prop := ∀ (pins : List (Addr × Obj)) (σ : St) (H : Hp) (s : Shared) (e : Value) (s' : Shared), Inv X pins σ H s → CX X.stack H s E e s' → X.xe e s'

section
variable {X : Cx} {CX : CXT} {k : Nat} {f C : Addr} {fd : FuncData} {ps : List Str} {sp : Sp} {dvs : List V} {ds : List Value} {E : XK} {x m : Str} {p pos apos : Pos} {e o : Expr} {es : List Expr} {ta : TE} {t : TA}

/-- the callee runs -/
theorem run_fn {pins : List (Addr × Obj)} {σ : St} {H : Hp} {s : Shared} {Q : VK} {us : List Value} {vs : List V} (F : FnOk X.prog X.w X.K X.mg X.base CX k f fd ps sp) (hr : Room k X.A) (hb : Binds X.K fd ps ds) (hd : Vals dvs ds) (hx : Passes CX X E)
    (I : Inv X pins σ H s) (r : Vals vs us) (h : sp (vs ++ dvs) H Q E) : wpAny (model X.prog X.w) X.A (call (.ref f) us) (EP X pins σ Q) X.xe s := by
  have r2 : Vals (vs ++ dvs) (us ++ ds) := r.append hd
  have hl : (us ++ ds).length = ps.length := by rw [← r2.length]; exact F.len _ _ _ _ h
  refine wpAny_call (codeAny_mono (F.run X.A X.stack s H ⟨us, []⟩ (us ++ ds) (vs ++ dvs) Q E hr I.env0 (hb s us I.kIn hl) r2 h) fun r s' hq => ?_)
  cases r with
  | error e => exact hx pins σ H s e s' I hq
  | ok fl =>
    cases fl with
    | ret u => exact I.after hq
    | next => exact False.elim hq
    | brk => exact False.elim hq
    | cont => exact False.elim hq

theorem pe_call (F : FnOk X.prog X.w X.K X.mg X.base CX k f fd ps sp) (hr : Room k X.A) (hg : Gl X x) (hm : X.mg x = some (.ref f)) (hk : PySem.W.keepIn X.K (.ref f) = true) (hb : Binds X.K fd ps ds) (hd : Vals dvs ds) (hx : Passes CX X E)
    (ha : PA X (e :: es) t) (hdb : (x == ("__debug__" : Str)) = false := by decide) (he : starEach (e :: es) X.env = (false, eval e X.env) :: starEach es X.env := by rfl) (hpl : (backTo pos (starEach es X.env)).any (·.1) = false := by rfl) :
    PE X (.Call (.Name x p) (e :: es) [] pos) (tCall sp dvs E t) := by
  intro pins s σ H Q I h
  refine wpAny_Call_Name_kw (ld_glob I hg hm ?_ hdb)
  refine PySem.W.callWith_K (h₀ := X.base) I.ok.mod.kin hk (thn (ha pos pins s σ H _ I h) fun us s1 ⟨vs, H1, I1, r, q⟩ => ⟨I1.kIn, ?_⟩) he hpl
  exact run_fn F hr hb hd hx I1 r q
theorem pe_call0 (F : FnOk X.prog X.w X.K X.mg X.base CX k f fd ps sp) (hr : Room k X.A) (hg : Gl X x) (hm : X.mg x = some (.ref f)) (hk : PySem.W.keepIn X.K (.ref f) = true) (hb : Binds X.K fd ps ds) (hd : Vals dvs ds) (hx : Passes CX X E)
    (hdb : (x == ("__debug__" : Str)) = false := by decide) : PE X (.Call (.Name x p) [] [] pos) (tCall sp dvs E tNil) := by
  intro pins s σ H Q I h
  refine wpAny_Call_Name_kw (ld_glob I hg hm ?_ hdb)
  exact PySem.W.callWith_K0 I.kIn hk (run_fn (us := []) F hr hb hd hx I .nil h)

end

/-! ### keywords -/
section
variable {X : Cx} {CX : CXT} {k : Nat} {f C : Addr} {fd : FuncData} {ps ks : List Str} {sp : Sp} {E : XK} {x m : Str} {p pos apos kpos : Pos} {e o : Expr} {es : List Expr} {kws : List Keyword} {te ta : TE} {t tk : TA} {nm : Option Str}
variable {g : List Value → List Value → List Value} {gV : List V → List V → List V}
end

/-! ### a def's body keeps its promise -/
/-- names: the parameters first -/
structure FnScope (N P : List Str) (sc : Scope) : Prop where
  kind : sc.kind = .function
  co : sc.isCoroutine = false
  gen : sc.isGenerator = false
  nd : N.Nodup
  pre : N.take P.length = P
  par : ∀ x ∈ P, sc.names.lookup x = some .local ∨ sc.names.lookup x = some .cell
  nofree : ∀ y ∈ sc.names, y.2 ≠ .free

theorem bindL_out {kindOf : Str → Option NameKind} {x : Str} : ∀ {binds : List (Str × Value)} {m : Str → Option Value}, (∀ v, (x, v) ∉ binds) → bindL kindOf binds m x = m x
  | [], _, _ => rfl
  | (n, v) :: r, m, h => by
    unfold bindL
    rw [bindL_out fun w hw => h w (List.mem_cons_of_mem _ hw)]
    split
    · have : x ≠ n := by rintro rfl; exact h v List.mem_cons_self
      simp [this]
    · rfl
theorem bindC_out {kindOf : Str → Option NameKind} {x : Str} : ∀ {binds : List (Str × Value)} {m : Str → Option Value}, (∀ v, (x, v) ∉ binds) → bindC kindOf binds m x = m x
  | [], _, _ => rfl
  | (n, v) :: r, m, h => by
    unfold bindC
    rw [bindC_out fun w hw => h w (List.mem_cons_of_mem _ hw)]
    split
    · rfl
    · have : x ≠ n := by rintro rfl; exact h v List.mem_cons_self
      simp [this]
theorem bindL_get {kindOf : Str → Option NameKind} {x : Str} {v : Value} : ∀ {P : List Str} {vs : List Value} {i : Nat} {m : Str → Option Value}, P.Nodup → P[i]? = some x → vs[i]? = some v → kindOf x = some .local →
    bindL kindOf (P.zip vs) m x = some v
  | [], _, _, _, _, h, _, _ => by simp at h
  | _ :: _, [], _, _, _, _, h, _ => by simp at h
  | p :: P, w :: vs, 0, m, nd, h1, h2, hk => by
    simp at h1 h2; subst h1; subst h2
    show bindL kindOf ((p, w) :: P.zip vs) m p = _
    unfold bindL
    rw [bindL_out fun v hv => (List.nodup_cons.mp nd).1 (List.of_mem_zip hv).1, if_pos hk]
    simp
  | p :: P, w :: vs, i + 1, m, nd, h1, h2, hk => by
    show bindL kindOf ((p, w) :: P.zip vs) m x = _
    unfold bindL
    exact bindL_get (i := i) (List.nodup_cons.mp nd).2 (by simpa using h1) (by simpa using h2) hk
theorem bindC_get {kindOf : Str → Option NameKind} {x : Str} {v : Value} : ∀ {P : List Str} {vs : List Value} {i : Nat} {m : Str → Option Value}, P.Nodup → P[i]? = some x → vs[i]? = some v → kindOf x ≠ some .local →
    bindC kindOf (P.zip vs) m x = some v
  | [], _, _, _, _, h, _, _ => by simp at h
  | _ :: _, [], _, _, _, _, h, _ => by simp at h
  | p :: P, w :: vs, 0, m, nd, h1, h2, hk => by
    simp at h1 h2; subst h1; subst h2
    show bindC kindOf ((p, w) :: P.zip vs) m p = _
    unfold bindC
    rw [bindC_out fun v hv => (List.nodup_cons.mp nd).1 (List.of_mem_zip hv).1, if_neg hk]
    simp
  | p :: P, w :: vs, i + 1, m, nd, h1, h2, hk => by
    show bindC kindOf ((p, w) :: P.zip vs) m x = _
    unfold bindC
    exact bindC_get (i := i) (List.nodup_cons.mp nd).2 (by simpa using h1) (by simpa using h2) hk

/-- the names' values at the entry -/
noncomputable def start (N : List Str) (vs : List V) : St := vs.map some ++ List.replicate (N.length - vs.length) none

/-- the context of a def's body, at its entry; an exception leaves the frame, then lies as CX says -/
noncomputable def cxOf (CX : CXT) (P : Program) (w : World) (K : PySem.W.Frag) (mg : Str → Option Value) (base : Heap) (N : List Str) (qual : Str) (scope : Scope) (f : Addr) (cd : Value) (A : Around) (outer : List Env) (s : Shared) (H : Hp) (E : XK) : Cx where
  prog := P
  w := w
  K := K
  mg := mg
  base := base
  A := A.deeper (envOfC qual scope s.heap.objs.size f cd)
  N := N
  s₀ := s
  H₀ := H
  env := envOfC qual scope s.heap.objs.size f cd
  outer := outer
  stack := envOfC qual scope s.heap.objs.size f cd :: outer
  ex := []
  calm := true
  fn := fun _ => true
  pn := []
  xe := fun e s' => wpAny (model P w) (A.deeper (envOfC qual scope s.heap.objs.size f cd)) (leaving (envOfC qual scope s.heap.objs.size f cd) e) (fun _ s'' => CX outer H s E e s'') (fun e' s'' => CX outer H s E e' s'') s'

theorem cell_has {sc : Scope} {n : Nat} {x : Str} (h : sc.names.lookup x = some .cell) : ∃ c, (cellsFrom n sc.names []).lookup x = some c := by
  have q := PySem.W.cellsFrom_some sc.names n [] (.inl h)
  exact Option.isSome_iff_exists.mp q

theorem inv_start {CX : CXT} {P : Program} {w : World} {K : PySem.W.Frag} {mg : Str → Option Value} {base : Heap} {N ps : List Str} {qual : Str} {scope : Scope} {f : Addr} {cd : Value} {A : Around} {outer : List Env} {s s1 : Shared} {H : Hp} {E : XK} {us : List Value} {vs : List V}
    (S : FnScope N ps scope) (hd : A.handled = none) (e0 : Env0 P w K mg base A outer s H) (hl : vs.length = ps.length) (r : Vals vs us)
    (x : InCallC s s.heap.objs.size (bindL (envOfC qual scope s.heap.objs.size f cd).kindOf (ps.zip us) fun _ => none) (cellsFrom (s.heap.objs.size + 1) scope.names []) (bindC (envOfC qual scope s.heap.objs.size f cd).kindOf (ps.zip us) fun _ => none) s1) :
    Inv (cxOf CX P w K mg base N qual scope f cd A outer s H E) [] (start N vs) H s1 := by
  have hpl : ps.length ≤ N.length := by have := congrArg List.length S.pre; rw [List.length_take] at this; omega
  obtain ⟨h1, tk, rfl, hk⟩ := x.done
  have noA : ∀ b : Addr, b ∉ (cxOf CX P w K mg base N qual scope f cd A outer s H E).ex := fun b z => absurd (show b ∈ ([] : List Addr) from z) (by simp)
  refine ⟨⟨e0.mod, S.kind, rfl, rfl, Nat.le_refl _, fun y z c h1 h2 => ?_, fun y hy => ?_, fun y c _ h => ?_, fun _ => hd, Around.frames_deeper e0.frames, .inr ⟨rfl, rfl⟩, fun b z => absurd z (noA b), e0.bs, e0.bsz, fun b _ _ => noA b, fun b z => absurd z (noA b), e0.funs, e0.frf⟩,
    rfl, e0.bare, Un.kept hk, ⟨_, x.toInCall.ns, fun i y v h1 h2 h3 => ?_⟩, fun y c h => ⟨_, x.cell y c h⟩, e0.hok.fresh (Nat.le_refl _), fun y c h => ?_, fun p hp => absurd (show p ∈ ([] : List (Addr × Obj)) from hp) (by simp), e0.hok.kept hk, ?_⟩
  · exact name_of_addr x.apart (PySem.mem_of_lookup h1) (PySem.mem_of_lookup h2)
  · have hy : scope.names.lookup y = some .cell ∨ scope.names.lookup y = some .free := hy
    rcases hy with hy | hy
    · exact cell_has hy
    · exact absurd rfl (S.nofree _ (PySem.mem_of_lookup hy))
  · exact Nat.le_of_lt (x.above y c (PySem.mem_of_lookup h))
  · have hi : i < vs.length := by
      unfold start at h2
      by_cases hi : i < vs.length
      · exact hi
      · rw [List.getElem?_append_right (by simpa using hi)] at h2
        rw [List.getElem?_replicate] at h2
        split at h2 <;> cases h2
    have ha : vs[i]? = some v := by
      unfold start at h2
      rw [List.getElem?_append_left (by simpa using hi), List.getElem?_map] at h2
      cases e : vs[i]? with
      | none => rw [e] at h2; cases h2
      | some a => rw [e] at h2; cases h2; rfl
    obtain ⟨u, hu, rv⟩ := r.get ha
    have hp : ps[i]? = some y := by
      rw [← S.pre, List.getElem?_take_of_lt (by omega)]; exact h1
    have ndP : ps.Nodup := by rw [← S.pre]; exact S.nd.sublist (List.take_sublist _ _)
    refine ⟨u, rv, ?_⟩
    rcases S.par y (List.mem_of_getElem? hp) with k | k
    · exact .inl ⟨k, bindL_get ndP hp hu k⟩
    · obtain ⟨c, e⟩ := cell_has (n := s.heap.objs.size + 1) k
      refine .inr ⟨.inl k, c, e, ?_⟩
      have q := x.cell y c e
      rw [bindC_get ndP hp hu (by show scope.names.lookup y ≠ _; rw [k]; decide)] at q
      exact q
  · exact e0.hok.fresh (Nat.le_of_lt (x.above y c (PySem.mem_of_lookup h)))
  · unfold start
    show _ = N.length
    rw [List.length_append, List.length_map, List.length_replicate]
    omega

/-- THE RULE: a def (or a method) of the text, by its body. The body's reading t is chosen for each entry; it is run at the parameters' values -/
theorem fn_of {CX : CXT} {P : Program} {w : World} {K : PySem.W.Frag} {mg : Str → Option Value} {base : Heap} {k : Nat} {f : Addr} {name qual : Str} {params : Arguments} {body : List Stmt} {scope : Scope} {dV kV doc pm cdv ct oc : Value} {an od : Option Addr}
    {osl : Array (Option Value)} {N ps : List Str} {sp : Sp} (lk : K.lookup f = some ⟨oc, od, .func (PySem.W.fnOf name qual params body scope dV kV doc pm an cdv ct), osl⟩) (hcd : PySem.W.codeIn K cdv qual = true) (S : FnScope N ps scope)
    (len : ∀ vs H Q E, sp vs H Q E → vs.length = ps.length)
    (hbody : ∀ (A : Around) (outer : List Env) (s : Shared) (H : Hp) (vs : List V) (Q : VK) (E : XK), Room k (A.deeper (envOfC qual scope s.heap.objs.size f cdv)) → sp vs H Q E →
      ∃ t, PSs (cxOf CX P w K mg base N qual scope f cdv A outer s H E) body t ∧ t { nx := fun _ H' => Q .non H', rt := Q } (start N vs) H) :
    FnOk P w K mg base CX (k + 1) f (PySem.W.fnOf name qual params body scope dV kV doc pm an cdv ct) ps sp := by
  refine ⟨len, fun A outer s H args us vs Q E hr e0 hb r hsp => ?_⟩
  have hl := len _ _ _ _ hsp
  have KX : K.In s.heap := e0.mod.kin.keeps fun b o e => (e0.bs b o e).1
  have lim : s.heap.NoLimit := e0.mod.nolimit.keeps fun b o e => (e0.bs b o e).1
  have hkind : ∀ y ∈ ps.zip us, scope.names.lookup y.1 = some .local ∨ (scope.names.lookup y.1 = some .cell ∧ ((cellsFrom (s.heap.objs.size + 1) scope.names []).lookup y.1).isSome = true) := fun ⟨n, v⟩ hy => by
    rcases S.par n (List.of_mem_zip hy).1 with q | q
    · exact .inl q
    · exact .inr ⟨q, PySem.W.cellsFrom_some _ _ _ (.inl q)⟩
  refine codeAny_call_function hr.depth (KX _ _ lk) rfl S.co S.gen rfl (PySem.W.codeRec_of KX hcd) (hb _ _ _ _ ?_)
  refine wpAny_newFunctionEnv_cells S.kind hkind fun env he s1 x => ?_
  subst he
  refine ⟨lim.keeps x.toInCall.keep, codeAny_func ?_⟩
  obtain ⟨t, ht, hq⟩ := hbody A outer s H vs Q E (hr.deeper _) hsp
  have I : Inv (cxOf CX P w K mg base N qual scope f cdv A outer s H E) [] (start N vs) H s1 := inv_start S hr.hd e0 hl r x
  refine wpAny_mono (ht [] s1 (start N vs) H _ I hq) (fun fl s' hs => ?_) fun e s' hs => hs
  have fin : ∀ {σ' : St} {H' : Hp} {v : V} {u : Value}, Inv (cxOf CX P w K mg base N qual scope f cdv A outer s H E) [] σ' H' s' → RelV v u → Q v H' → CE outer P w H s Q u s' :=
    fun {σ' H' v u} J rv q => ⟨v, H', J.os, J.bare, J.base, J.hok, rv, q⟩
  cases fl with
  | ret u =>
    obtain ⟨v, σ', H', J, rv, q⟩ := hs
    exact fin J rv q
  | next =>
    obtain ⟨σ', H', J, q⟩ := hs
    exact fin (v := V.non) (u := Value.none) J rfl q
  | brk =>
    obtain ⟨_, _, _, q⟩ := hs
    exact False.elim q
  | cont =>
    obtain ⟨_, _, _, q⟩ := hs
    exact False.elim q
end L2

namespace L2
open PySem PySem.Spec PyProof.Rows
section
variable {X : Cx} {x : Str} {p pos : Pos} {e : Expr} {es : List Expr} {t : TA} {id T : String} {r : List V → Hp → VK → Prop}

noncomputable def tCB (r : List V → Hp → VK → Prop) (t : TA) : TE := fun σ H Q => t σ H fun vs H1 => r vs H1 Q
/-- f(e, ..), f a built-in function -/
theorem pe_callB (hc : CallR X (.builtin id) r) (hg : Gl X x) (hm : X.mg x = none) (hv : bootBuiltins x = some (.builtin id)) (ha : PA X (e :: es) t) (hn : x ≠ "__name__" := by decide) (hdb : (x == ("__debug__" : Str)) = false := by decide)
    (he : starEach (e :: es) X.env = (false, eval e X.env) :: starEach es X.env := by rfl) (hpl : (backTo pos (starEach es X.env)).any (·.1) = false := by rfl) : PE X (.Call (.Name x p) (e :: es) [] pos) (tCB r t) := by
  intro pins s σ H Q I h
  refine wpAny_Call_Name_kw (ld_blt I hg hm hv ?_ hn hdb)
  exact PyProof.Rows.callWith_builtin1 (thn (ha pos pins s σ H _ I h) fun us s1 ⟨vs, H1, I1, r1, q1⟩ => hc pins s1 σ H1 vs us Q I1 r1 q1) he hpl
end
end L2

namespace HT
open PySem PyProof.Rows

section
open PySem.SeqAt
open PySem.AutoSeq1 (wpAny_loadPart')
open PySem.MeetsSeq PySem.MeetsSeq2 PySem.MeetsSeq3

end

section
variable {prog : Program} {w : World} {A : Around} {E : Value → Shared → Prop} {s : Shared}

/-! ### t[a:b], not the whole -/
/-- a slice's bound as a place among n (d where it is left out) -/
noncomputable def sIx (n d : Nat) : Option Int → Nat
  | none => d
  | some v => if v < 0 then (v + (n : Int)).toNat else min v.toNat n
end
end HT

namespace L2
open PySem PySem.Spec PyProof.Rows

/-! ### the parts of a slice -/
noncomputable abbrev TO := St → Hp → (Option Int → Hp → Prop) → Prop
/-- a slice's part (left out, or an int) -/
noncomputable def PO (X : Cx) (e : Option Expr) (t : TO) : Prop :=
  ∀ (pins : List (Addr × Obj)) (s : Shared) (σ : St) (H : Hp) (Q : Option Int → Hp → Prop), Inv X pins σ H s → t σ H Q →
    wpAny (model X.prog X.w) X.A (evalPart e X.env) (fun u s' => ∃ o H', Inv X pins σ H' s' ∧ IsPart u o ∧ Q o H') X.xe s
noncomputable def tPart (t : TE) : TO := fun σ H Q => t σ H fun x H1 => ∃ i, x = .int i ∧ Q (some i) H1

section
variable {X : Cx} {e : Expr} {te : TE} {lo hi : Option Expr} {tl th : TO} {pos p2 : Pos}

theorem po_some (h : PE X e te) : PO X (some e) (tPart te) := by
  intro pins s σ H Q I hw
  rw [evalPart_some]
  refine thn (h pins s σ H _ I hw) fun u s1 ⟨x, H1, I1, r1, q1⟩ => ?_
  obtain ⟨i, rfl, q⟩ := q1
  obtain ⟨t, rfl⟩ := r1
  exact ⟨some i, H1, I1, .int i t, q⟩

/-- what a slice of a value is, by values: the slice object stands at sl -/
noncomputable def SlR (X : Cx) (r : V → Option Int → Option Int → Hp → VK → Prop) : Prop :=
  ∀ (pins : List (Addr × Obj)) (s : Shared) (σ : St) (H : Hp) (x : V) (v vl vu : Value) (lo hi : Option Int) (sl : Addr) (Q : VK), Inv X pins σ H s → RelV x v → s.heap.IsSliceOf sl vl vu .none → IsPart vl lo → IsPart vu hi → r x lo hi H Q →
    ∃ T id, typeLookup (.type T) "__getitem__" = pure (some (.builtin id)) ∧ s.TypeIs v T ∧ wpAny (model X.prog X.w) X.A (getItem v (.ref sl)) (EP X pins σ Q) X.xe s
noncomputable def tSl (r : V → Option Int → Option Int → Hp → VK → Prop) (te : TE) (tl th : TO) : TE := fun σ H Q => te σ H fun x H1 => tl σ H1 fun l H2 => th σ H2 fun u H3 => r x l u H3 Q
/-- a[lo:hi], any a -/
theorem pe_slice {r : V → Option Int → Option Int → Hp → VK → Prop} (hr : SlR X r) (he : PE X e te) (hl : PO X lo tl) (hu : PO X hi th) : PE X (.Subscript e (.Slice lo hi none p2) pos) (tSl r te tl th) := by
  intro pins s σ H Q I h
  refine Subscript_ (thn (he pins s σ H _ I h) fun v s1 ⟨x, H1, I1, r1, q1⟩ => ?_)
  refine wpAny_Slice (thn (hl pins s1 σ H1 _ I1 q1) fun vl s2 ⟨l, H2, I2, pl, q2⟩ => thn (hu pins s2 σ H2 _ I2 q2) fun vu s3 ⟨u, H3, I3, pu, q3⟩ => ?_)
  rw [evalPart_none]
  refine wpAny_pure ?_
  have I4 : Inv X pins σ H3 { s3 with heap := s3.heap.push { cls := .type "slice", data := .fields #[vl, vu, .none] } } := I3.kept (t' := s3.toks) fun b ob q => Heap.get?_push_of_some _ q
  obtain ⟨T, id, hT, ht, hg⟩ := hr pins { s3 with heap := s3.heap.push { cls := .type "slice", data := .fields #[vl, vu, .none] } } σ H3 x v vl vu l u s3.heap.objs.size Q I4 r1 (Heap.IsSliceOf.new ..) pl pu q3
  show wpAny (model X.prog X.w) X.A (subscriptTail e (.Slice lo hi none p2) v (.ref s3.heap.objs.size)) (EP X pins σ Q) X.xe { s3 with heap := s3.heap.push { cls := .type "slice", data := .fields #[vl, vu, .none] } }
  exact tail_any (ops := [.ref s3.heap.objs.size, v]) ht hT hg (by with_unfolding_all rfl)

/-- the items of xs[lo:hi] -/
noncomputable def cutV (xs : List V) (lo hi : Option Int) : List V := (xs.drop (HT.sIx xs.length 0 lo)).take (HT.sIx xs.length xs.length hi - HT.sIx xs.length 0 lo)
theorem cutV_length (xs : List V) (lo hi : Option Int) : (cutV xs lo hi).length ≤ xs.length := by
  unfold cutV
  rw [List.length_take, List.length_drop]
  omega
/-! ### t < u, t + u -/
end
end L2

namespace L2
open PySem PySem.Spec PyProof.Rows

/-! ### places -/
/-- the place that an index of any sign means -/
noncomputable def ixN (n : Nat) (i : Int) : Option Nat := if 0 ≤ i then (if i < n then some i.toNat else none) else if -(n : Int) ≤ i then some (i + n).toNat else none
noncomputable def atI {α : Type} (xs : List α) (i : Int) : Option α := (ixN xs.length i).bind fun j => xs[j]?
theorem ixN_seq {n : Nat} {i : Int} {j : Nat} (h : ixN n i = some j) : seqIndex? i n = some j ∧ j < n ∧ -(n : Int) ≤ i ∧ i < n := by
  unfold ixN at h
  by_cases h0 : 0 ≤ i
  · rw [if_pos h0] at h
    by_cases h1 : i < n
    · rw [if_pos h1] at h
      have e : i.toNat = j := Option.some.inj h
      exact ⟨by rw [seqIndex_of h0 h1, e], by omega, by omega, h1⟩
    · rw [if_neg h1] at h; cases h
  · rw [if_neg h0] at h
    by_cases h1 : -(n : Int) ≤ i
    · rw [if_pos h1] at h
      have e : (i + n).toNat = j := Option.some.inj h
      exact ⟨by rw [seqIndex_neg (by omega) h1, e], by omega, h1, by omega⟩
    · rw [if_neg h1] at h; cases h
theorem atI_get {α : Type} {xs : List α} {i : Int} {v : α} (h : atI xs i = some v) : ∃ j, seqIndex? i xs.length = some j ∧ xs[j]? = some v ∧ j < xs.length ∧ -(xs.length : Int) ≤ i ∧ i < xs.length := by
  unfold atI at h
  cases e : ixN xs.length i with
  | none => rw [e] at h; cases h
  | some j =>
    rw [e] at h
    obtain ⟨h1, h2, h3, h4⟩ := ixN_seq e
    exact ⟨j, h1, h, h2, h3, h4⟩
theorem atI_nat {α : Type} {xs : List α} {j : Nat} {v : α} (h : xs[j]? = some v) : atI xs (j : Int) = some v := by
  have hj : j < xs.length := (List.getElem?_eq_some_iff.mp h).1
  have e : ixN xs.length (j : Int) = some j := by
    unfold ixN
    rw [if_pos (by omega), if_pos (by omega)]; simp
  unfold atI; rw [e]; exact h
/-! ### what may be subscripted -/
/-- what stands as an index of a plain subscript -/
noncomputable def PlainIx (b : Expr) : Prop := ∀ o i, subscripted b false o i = operate [o, i] (getItem o i)
/-- a subscript by values -/
noncomputable def IxR (X : Cx) (r : R2) : Prop :=
  ∀ (value slice : Expr) (pins : List (Addr × Obj)) (s : Shared) (σ : St) (H : Hp) (x y : V) (v u : Value) (Q : VK), Inv X pins σ H s → RelV x v → RelV y u → r x y H Q →
    subscripted slice false v u = operate [v, u] (getItem v u) → wpAny (model X.prog X.w) X.A (subscriptTail value slice v u) (EP X pins σ Q) X.xe s
/-- a call of a builtin's method by values: the receiver, the arguments -/
noncomputable def MtR (X : Cx) (id : String) (r : V → List V → Hp → VK → Prop) : Prop :=
  ∀ (pins : List (Addr × Obj)) (s : Shared) (σ : St) (H : Hp) (x : V) (xs : List V) (v : Value) (us : List Value) (Q : VK), Inv X pins σ H s → RelV x v → Vals xs us → r x xs H Q →
    wpAny (model X.prog X.w) X.A (call (.builtin id) (v :: us)) (EP X pins σ Q) X.xe s
section
variable {X : Cx} {a b : Expr} {ta tb : TE} {pos : Pos}
/-- a[b] -/
theorem pe_ix {r : R2} (hr : IxR X r) (ha : PE X a ta) (hb : PE X b tb) (hs : PlainIx b) : PE X (.Subscript a b pos) (tOp r ta tb) := by
  intro pins s σ H Q I h
  exact Subscript_ (binT ha hb I h fun v u s2 x y H2 I2 rx ry q => hr a b pins s2 σ H2 x y v u Q I2 rx ry q (hs _ _))

noncomputable def rIxL (K : PySem.W.Frag) : R2 := fun x y H Q => ∃ p xs i v, x = .ref p ∧ y = .int i ∧ SqL K H p xs ∧ atI xs i = some v ∧ Q v H
noncomputable def rIxT (K : PySem.W.Frag) : R2 := fun x y H Q => ∃ p xs i v, x = .ref p ∧ y = .int i ∧ SqT K H p xs ∧ atI xs i = some v ∧ Q v H
theorem ix_list : IxR X (rIxL X.K) := by
  intro value slice pins s σ H x y v u Q I rx ry h hs
  obtain ⟨p, xs, i, z, rfl, rfl, hq, he, q⟩ := h
  cases rx
  obtain ⟨t, rfl⟩ := ry
  obtain ⟨its, r, pl, hz⟩ := I.list hq
  obtain ⟨j, h1, h2, h3, h4, h5⟩ := atI_get he
  obtain ⟨w, ew, rw'⟩ := r.get h2
  have hl := r.length
  have hn := line63
  have fin : EP X pins σ Q w s := ⟨z, H, I, rw', q⟩
  by_cases h0 : 0 ≤ i
  · have hj : i.toNat = j := by
      rw [seqIndex_of h0 h5] at h1
      exact Option.some.inj h1
    exact item_listR pl.isList h0 (by omega) (by rw [hj]; simpa using ew) fin hs
  · have hj : (i + (its.toArray.size : Int)).toNat = j := by
      rw [seqIndex_neg (by omega) h4] at h1
      rw [List.size_toArray, ← hl]
      exact Option.some.inj h1
    exact subscriptTail_builtinR (x := w) pl.isList.typeIs slot_list_getitem.lookup
      (wpAny_getItem_list_neg (Q := fun r s' => r = w ∧ EP X pins σ Q r s') pl.isList (by omega) (by rw [List.size_toArray] <;> omega) (by omega) (by rw [hj]; simpa using ew) ⟨rfl, fin⟩) hs
theorem ix_tup : IxR X (rIxT X.K) := by
  intro value slice pins s σ H x y v u Q I rx ry h hs
  obtain ⟨p, xs, i, z, rfl, rfl, hq, he, q⟩ := h
  cases rx
  obtain ⟨t, rfl⟩ := ry
  obtain ⟨its, r, pl, hz⟩ := I.tuple hq
  obtain ⟨j, h1, h2, h3, h4, h5⟩ := atI_get he
  obtain ⟨w, ew, rw'⟩ := r.get h2
  have hl := r.length
  have hn := line63
  have fin : EP X pins σ Q w s := ⟨z, H, I, rw', q⟩
  exact subscriptTail_builtinR (x := w) pl.typeIs slot_tuple_getitem.lookup
    (getItem_tuple (j := j) (Q := fun r s' => r = w ∧ EP X pins σ Q r s') pl (by omega) (by omega) (by rw [List.size_toArray, ← hl]; exact h1) (by simpa using ew) ⟨rfl, fin⟩) hs
/-! ### xs[i] = v, any sign -/
/-! ### slices -/
theorem slice_bounds (lo hi : Option Int) (n : Nat) : (sliceBounds lo hi none n).1 = ((HT.sIx n 0 lo : Nat) : Int) ∧ (sliceBounds lo hi none n).2.1 = ((HT.sIx n n hi : Nat) : Int) ∧ (sliceBounds lo hi none n).2.2 = 1 := by
  refine ⟨?_, ?_, rfl⟩
  · cases lo with
    | none => simp [sliceBounds, HT.sIx]
    | some i =>
      simp only [sliceBounds, HT.sIx, Option.getD_none, show (1 : Int) > 0 by decide, if_true]
      by_cases h : i < 0
      · simp only [h, if_true] <;> omega
      · simp only [h, if_false] <;> omega
  · cases hi with
    | none => simp [sliceBounds, HT.sIx]
    | some i =>
      simp only [sliceBounds, HT.sIx, Option.getD_none, show (1 : Int) > 0 by decide, if_true]
      by_cases h : i < 0
      · simp only [h, if_true] <;> omega
      · simp only [h, if_false] <;> omega
theorem slicePick_cut (its : List Value) (lo hi : Option Int) : slicePick its.toArray lo hi none = ((its.drop (HT.sIx its.length 0 lo)).take (HT.sIx its.length its.length hi - HT.sIx its.length 0 lo)).toArray := by
  obtain ⟨h1, h2, h3⟩ := slice_bounds lo hi its.toArray.size
  unfold slicePick
  rw [h1, h2, h3]
  simp only [sliceRange_one, pick_run, List.size_toArray] <;> rfl
/-- xs[lo:hi] of a list: a new list -/
noncomputable def rSlL (K : PySem.W.Frag) : V → Option Int → Option Int → Hp → VK → Prop := fun x lo hi H Q => ∃ a xs, x = .ref a ∧ SqL K H a xs ∧ ∀ p, H p = none → Q (.ref p) (upd H p (.lst (cutV xs lo hi)))
theorem sl_list : SlR X (rSlL X.K) := by
  intro pins s σ H x v vl vu lo hi sl Q I rx hs pl pu h
  obtain ⟨a, xs, rfl, hx, q⟩ := h
  cases rx
  obtain ⟨its, r, ht, hz⟩ := I.list hx
  have hlen := r.length
  refine ⟨"list", _, slot_list_getitem.lookup, ht.isList.typeIs, ?_⟩
  refine wpAny_getItem_list_slice ht.isList hs pl pu .none (by simp) ?_ (by rw [List.size_toArray] <;> omega)
  rw [slicePick_cut, ← hlen]
  refine ⟨.ref s.heap.objs.size, _, I.laid (t' := s.toks) (o := .lst (cutV xs lo hi)) (fun b ob q => Heap.get?_push_of_some _ q) (Nat.le_refl _) ?_, rfl, q _ (I.hok.fresh (Nat.le_refl _))⟩
  exact ⟨Nat.le_trans (cutV_length xs lo hi) hz, _, 0, (r.drop (HT.sIx xs.length 0 lo)).take (HT.sIx xs.length xs.length hi - HT.sIx xs.length 0 lo), Heap.get?_push_size _ rfl⟩

/-! ### in, not in: flat items -/
/-- == of flat values -/
noncomputable def eqV : V → V → Bool
  | .non, .non => true
  | .bl a, .bl b => a == b
  | .bl a, .int b => (if a then 1 else 0) == b
  | .int a, .bl b => a == (if b then 1 else 0)
  | .int a, .int b => a == b
  | .str a, .str b => a == b
  | _, _ => false
/-! ### len, list(x), tuple(x) of any list or tuple that is read -/
theorem call_len_seq : CallR X (.builtin "len") (fun xs H Q => ∃ p ys, xs = [.ref p] ∧ (SqL X.K H p ys ∨ SqT X.K H p ys) ∧ Q (.int ys.length) H) := by
  intro pins s σ H xs us Q I r h
  obtain ⟨p, ys, rfl, hq, q⟩ := h
  obtain ⟨u, rfl, rx⟩ := vals1 r
  cases rx
  have hn := line63
  rcases hq with hq | hq
  · obtain ⟨its, r', pl, hz⟩ := I.list hq
    have hlen := r'.length
    exact Calls.call_len_list pl.isList (by simp only [List.size_toArray] <;> omega) ⟨.int ys.length, H, I.tok _, ⟨s.toks + 1, by rw [List.size_toArray, hlen]⟩, q⟩
  · obtain ⟨its, r', pl, hz⟩ := I.tuple hq
    have hlen := r'.length
    exact len_tuple pl (by simp only [List.size_toArray] <;> omega) ⟨.int ys.length, H, I.tok _, ⟨s.toks + 1, by rw [List.size_toArray, hlen]⟩, q⟩
/-! ### the call of a builtin's method: o.m(..) -/
/-- the value is of that builtin type -/
noncomputable def tyV (K : PySem.W.Frag) (T : String) (x : V) (H : Hp) : Prop := match x with
  | .str _ => T = "str"
  | .int _ => T = "int"
  | .ref p => (T = "list" ∧ ∃ xs, SqL K H p xs) ∨ (T = "tuple" ∧ ∃ o, K.lookup p = some o ∧ o.cls = .type "tuple" ∧ o.dict = none) ∨
      (T = "dict" ∧ ((∃ kvs, H p = some (.dK kvs)) ∨ ∃ kvs, H p = some (.dT kvs))) ∨ (T = "set" ∧ ∃ S n, H p = some (.set S n))
  | _ => False
theorem tyV_is {pins : List (Addr × Obj)} {σ : St} {H : Hp} {s : Shared} {T : String} {x : V} {v : Value} (I : Inv X pins σ H s) (r : RelV x v) (ty : tyV X.K T x H) :
    s.TypeIs v T ∧ ∀ a, v = .ref a → ∃ ob, s.heap.get? a = some ob ∧ ob.dict = none := by
  cases x with
  | str z =>
    obtain ⟨t, rfl⟩ := r
    cases (show T = "str" from ty)
    exact ⟨typeIs_str s z t, fun _ e => nomatch e⟩
  | int i =>
    obtain ⟨t, rfl⟩ := r
    cases (show T = "int" from ty)
    exact ⟨typeIs_int s i t, fun _ e => nomatch e⟩
  | ref p =>
    cases r
    rcases ty with ⟨rfl, xs, hq⟩ | ⟨rfl, o, hk, hc, hd⟩ | ⟨rfl, hk⟩ | ⟨rfl, S, n, hk⟩
    · obtain ⟨its, _, pl, _⟩ := I.list hq
      refine ⟨pl.isList.typeIs, fun a e => ?_⟩
      cases e
      obtain ⟨o, n, e, c, hd, _⟩ := pl
      exact ⟨o, e, hd⟩
    · refine ⟨⟨o, I.kIn p o hk, hc⟩, fun a e => ?_⟩
      cases e
      exact ⟨o, I.kIn _ o hk, hd⟩
    · have z : ∃ o, s.heap.get? p = some o ∧ o.ExactDict := by
        rcases hk with ⟨kvs, hk⟩ | ⟨kvs, hk⟩
        · obtain ⟨_, _, _, _, o, _, _, e, ex, _⟩ := I.hok p _ hk
          exact ⟨o, e, ex⟩
        · obtain ⟨_, _, _, _, o, _, _, e, ex, _⟩ := I.hok p _ hk
          exact ⟨o, e, ex⟩
      obtain ⟨o, e, ex⟩ := z
      refine ⟨⟨o, e, ex.1⟩, fun a e2 => ?_⟩
      cases e2
      exact ⟨o, e, ex.2.1⟩
    · obtain ⟨o, _, _, _, e, ex, _⟩ := I.hok p _ hk
      refine ⟨⟨o, e, ex.1⟩, fun a e2 => ?_⟩
      cases e2
      exact ⟨o, e, ex.2.1⟩
  | _ => exact False.elim ty
noncomputable def tBM (K : PySem.W.Frag) (T : String) (r : V → List V → Hp → VK → Prop) (to : TE) (t : TA) : TE := fun σ H Q => to σ H fun x H1 => tyV K T x H1 ∧ t σ H1 fun xs H2 => r x xs H2 Q
variable {o e : Expr} {es : List Expr} {to : TE} {t : TA} {name : Str} {apos cpos : Pos} {T id : String} {r : V → List V → Hp → VK → Prop}
theorem pe_bm (pa : PlainAttrs T) (slot : Slot T name id) (hty : typeOf (.builtin id) = pure (.type "method_descriptor")) (hm : MtR X id r) (ho : PE X o to) (ha : PA X (e :: es) t)
    (hbase : attributeBase o name X.env (eval o X.env) = eval o X.env := by rfl)
    (hfew : ((backTo cpos (starEach (e :: es) X.env)).all (fun x => !x.1) && (backToKw cpos (keywordEach [] X.env)).all (fun x => x.1.isSome)
      && decide ((e :: es).length + ([] : List Keyword).length + (if ([] : List Keyword).isEmpty then 0 else 1) < 30)) = true := by rfl)
    (hline : (apos.endLine == cpos.line) = true := by rfl) (hs : starEach (e :: es) X.env = (false, eval e X.env) :: starEach es X.env := by rfl) (hplain : (backTo cpos (starEach es X.env)).any (·.1) = false := by rfl) :
    PE X (.Call (.Attribute o name apos) (e :: es) [] cpos) (tBM X.K T r to t) := by
  intro pins s σ H Q I h
  refine wpAny_Call_method_late hbase hfew hline rfl (thn (ho pins s σ H _ I h) fun v s1 ⟨x, H1, I1, r1, ty, q1⟩ => ?_)
  obtain ⟨h1, h2⟩ := tyV_is I1 r1 ty
  refine ⟨T, id, pa, slot, hty, h1, h2, ?_⟩
  have hA := ha cpos pins s1 σ H1 _ I1 q1
  rw [hs] at hA ⊢
  refine Calls.callWith_builtin (by show (false || (backTo cpos (starEach es X.env)).any (·.1)) = false; rw [hplain] <;> rfl) (Calls.evalArgs_plain ?_)
  exact thn hA fun us s2 ⟨vs, H2, I2, r2, q2⟩ => hm pins s2 σ H2 x vs v us Q I2 r1 r2 q2
/- xs.append(e), list.index on a module's tuple .. are MtR facts of 06m -/
end
end L2

namespace L2
open PySem PySem.Spec PyProof.Rows

noncomputable def MtM (X : Cx) (id : String) (r : V → List V → Hp → VK → Prop) : Prop :=
  ∀ (pins : List (Addr × Obj)) (s : Shared) (σ : St) (H : Hp) (x : V) (xs : List V) (v : Value) (us : List Value) (Q : VK), Inv X pins σ H s → RelV x v → Vals xs us → r x xs H Q →
    wpAny (model X.prog X.w) X.A (call (.builtin id) (v :: us)) (EP X pins σ Q) X.xe s

/-! ### lists of values -/
theorem Vals.one : ∀ {x : V} {us : List Value}, Vals [x] us → ∃ u, us = [u] ∧ RelV x u
  | _, _, .cons r .nil => ⟨_, rfl, r⟩
section
variable {X : Cx} {pins : List (Addr × Obj)} {σ : St} {H : Hp} {s : Shared} {l b : Addr} {xs ys zs : List V}

/-! ### the two steps: a tracked list is rewritten, a new list is laid -/
theorem Inv.lset {its its' : List Value} {n : Nat} {f : Array Value → Array Value} {t' : Nat} (I : Inv X pins σ H s) (hH : H l = some (.lst xs))
    (e : s.heap.get? l = some { cls := .type "list", data := .seq its.toArray n }) (hf : f its.toArray = its'.toArray) (hv : Vals ys its') (hz : ys.length ≤ sizeLine) :
    Inv X pins σ (upd H l (.lst ys)) { s with heap := s.heap.update l (Obj.mapSeq f), toks := t' } := by
  have q := PySem.IsL.update e f
  rw [hf] at q
  refine I.write (x := l) (e := l) (by rw [hH]; exact trivial) (.inl rfl) (fun b' u hb hu => (Heap.get?_update_other s.heap (Obj.mapSeq f) (Ne.symm hb)).trans hu) ⟨_, q⟩ ?_
  exact ⟨hz, its', _, hv, q⟩
theorem Inv.lnew {its : List Value} {t' : Nat} (I : Inv X pins σ H s) (hv : Vals ys its) (hz : ys.length ≤ sizeLine) :
    Inv X pins σ (upd H s.heap.objs.size (.lst ys)) { s with heap := s.heap.push { cls := .type "list", data := .seq its.toArray }, toks := t' } :=
  I.laid (fun _ _ q => Heap.get?_push_of_some _ q) (Nat.le_refl _) ⟨hz, its, 0, hv, Heap.get?_push_size _ rfl⟩
theorem Inv.fresh (I : Inv X pins σ H s) : H s.heap.objs.size = none := I.hok.fresh (Nat.le_refl _)
theorem Inv.lstM (I : Inv X pins σ H s) (hH : H l = some (.lst xs)) : xs.length ≤ sizeLine ∧ ∃ (its : List Value) (n : Nat), Vals xs its ∧ xs.length = its.length ∧ s.heap.get? l = some { cls := .type "list", data := .seq its.toArray n } := by
  obtain ⟨z, its, n, r, e⟩ := I.hok l _ hH
  exact ⟨z, its, n, r, r.length, e⟩

end

section
variable {X : Cx}

/-! ### methods -/
noncomputable def rAppend : V → List V → Hp → VK → Prop := fun x vs H Q => ∃ l xs y, x = .ref l ∧ vs = [y] ∧ H l = some (.lst xs) ∧ xs.length < sizeLine ∧ Q .non (upd H l (.lst (xs ++ [y])))
theorem mt_append : MtM X "list.append" rAppend := by
  intro pins s σ H x vs v us Q I rx rv h
  obtain ⟨l, xs, y, rfl, rfl, hH, hz, q⟩ := h
  cases rx
  obtain ⟨u, rfl, ru⟩ := rv.one
  obtain ⟨z, its, n, r, hl, e⟩ := I.lstM hH
  refine call_meets F.slot_list_append ⟨_, e, rfl⟩ F.entry_list_append (F.args_list_append_2 _ _) (PySem.list_append l its.toArray n u (by rw [List.size_toArray]; omega)) ⟨e, ?_⟩
  refine ⟨.non, _, I.lset (its' := its ++ [u]) hH e (by simp) (r.append (.cons ru .nil)) ?_, rfl, q⟩
  rw [List.length_append, List.length_singleton]
  omega

/-! ### list + list, list += list, list * int -/
noncomputable def rCat : R2 := fun x y H Q => ∃ l b xs zs, x = .ref l ∧ y = .ref b ∧ H l = some (.lst xs) ∧ H b = some (.lst zs) ∧ xs.length + zs.length ≤ sizeLine ∧ ∀ p, H p = none → Q (.ref p) (upd H p (.lst (xs ++ zs)))
theorem op_cat : OpR X (binaryOp .Add) rCat := by
  intro pins s σ H x y v u Q I rx ry h
  obtain ⟨l, b, xs, zs, rfl, rfl, hH, hB, hz, q⟩ := h
  cases rx
  cases ry
  obtain ⟨z, its, n, r, hl, e⟩ := I.lstM hH
  obtain ⟨z2, its2, n2, r2, hl2, e2⟩ := I.lstM hB
  refine PySem.P.add_list e e2 ?_ (by rw [List.size_toArray, List.size_toArray]; omega)
  have ea : its.toArray ++ its2.toArray = (its ++ its2).toArray := by simp
  rw [ea]
  exact ⟨.ref _, _, I.lnew (t' := s.toks) (r.append r2) (by rw [List.length_append]; omega), rfl, q _ I.fresh⟩
/-! ### del xs[i] -/
end

/-! ### xs[a:b] = ys -/
section
variable {prog : Program} {w : World} {A : Around} {E : Value → Shared → Prop} {s : Shared}
end

section
variable {X : Cx}
end
end L2

namespace Att
open PySem PySem.W PySem.Calls PyProof.Rows

/-! ### the script -/
theorem ints_of_wellAll {P : Params} {h : Heap} : ∀ (ns : List Int) (vs : List Value), WellAll P h vs (ns.map WData.int) → IntsAre vs ns := by
  intro ns
  induction ns with
  | nil =>
    intro vs w
    rw [List.map_nil] at w
    cases w
    exact .nil
  | cons n ns ih =>
    intro vs w
    rw [List.map_cons] at w
    cases w with
    | cons a b =>
      cases a
      exact .cons _ _ (ih _ b)

theorem script_of {l : OpenLaw} {n : Nat} (hn : l.most = some n) {P : Params} {h : Heap} {args : List WData} {vals : List Value}
    (hpre : l.row.toRowW.claim.pre args = true) (hwl : WellAll P h vals args) :
    ∃ a vs ns, vals = [Value.ref a] ∧ args = [WData.list (ns.map WData.int)] ∧ h.get? a = some { cls := .type "list", data := .seq vs.toArray } ∧ IntsAre vs ns ∧ ns.length ≤ n := by
  have hsh : WShape.hasAll [] args [.list .int] = true := (pre_splitW hpre).1
  have hc : l.pre.holds [] { args := args } = true := (pre_splitW hpre).2
  obtain ⟨d, r, rfl, h1, h2⟩ := hasAllW_cons hsh
  obtain rfl := hasAllW_nil h2
  obtain ⟨xs, rfl, h3⟩ := hasW_list h1
  obtain ⟨ns, rfl⟩ := items_int h3
  have hlen : ns.length ≤ n := by
    unfold OpenLaw.pre at hc
    have h4 : (WTm.not (.lt (.lit (.int (n : Int))) (.len (.arg 0)))).holds [] { args := [.list (ns.map .int)] } = true := by
      have h4 := (holds_andW hc).1
      rw [hn] at h4
      exact h4
    have h5 := condW_of h4 (w_not (w_lt w_lit (w_len_list (w_arg rfl))))
    rw [List.length_map] at h5
    refine Nat.le_of_not_lt fun q => ?_
    have q' : (n : Int) < ((ns.length : Nat) : Int) := by omega
    first
      | (rw [decide_eq_true q'] at h5; exact absurd h5 (by decide))
      | (simp at h5; omega)
  cases hwl with
  | cons w1 w2 =>
    cases w2
    cases w1 with
    | list ho hall => exact ⟨_, _, ns, rfl, rfl, ho, ints_of_wellAll ns _ hall, hlen⟩

theorem post_true (l : OpenLaw) (args : List WData) : l.row.toRowW.claim.post args (.bool true) args = true :=
  postW_of (r := l.row.toRowW) (X := (true == true))
    (show WShape.has [] (.bool true) .bool = true by first | rfl | decide | simp [WShape.has, WShape.arms, WShape.armsAll])
    (show (WTm.eq .res (.lit (.bool true))).value [] { args := args, res := some (.bool true), after := args } = some (.bool (true == true)) from w_eq_bool (w_res rfl) w_lit) rfl

/-! ### the attachment: holds_open's last premise (the goal 'hc' behind k_head) from a wpAny of the law's body -/
/-- the same from a codeAny of the CALL (for a layer whose function contracts speak of calls) -/
theorem attach_call {l : OpenLaw} {n : Nat} {q : Program} {loose : List Str} {XP : (Str → Option Value) → Heap → Prop} {YP : World → Heap → Prop} {d : DefRec}
    (hn : l.most = some n) (hdf : d.params.defaults = [])
    (call : ∀ (w : World) (s₀ s₁ : Shared) (mg mb : Str → Option Value) (fa : Addr) (o : Obj) (pm cd doc : Value) (a : Addr) (vs : List Value) (ns : List Int),
      Ground q loose [] XP w s₀ mg mb s₁.heap → YP w s₁.heap →
      s₁.heap.get? fa = some o → o.data = .func (docDef d.name d.params d.body d.scope pm cd doc) → s₁.heap.CodeRec cd d.name → mg d.name = some (.ref fa) →
      s₁.heap.get? a = some { cls := .type "list", data := .seq vs.toArray } → IntsAre vs ns → ns.length ≤ n → s₁.gens = #[] →
      codeAny (model l.prog w) callerA (.call (.ref fa) ⟨[.ref a], []⟩) (fun r s' => r = .ok (.ret (.bool true)) ∧ OldK s₁.heap s'.heap ∧ s'.os = s₁.os ∧ AllBare s'.gens) s₁) :
    WalkO q loose XP YP l.row.toRowW d [] (fun f vs => PySem.call f vs) := by
  intro w s₀ s₁ mg mb G Y fa o pm cd doc dV kV ho hd hcd hD hmg hg args vals as hpre hlay hrd hwl hlo
  obtain rfl : dV = .none := Dflts.none hD hdf
  obtain rfl : kV = .none := Dflts.noKw hD
  obtain ⟨a, vs, ns, rfl, rfl, hobj, hints, hlen⟩ := script_of hn hpre hwl
  refine enter_call (codeAny_mono (call w s₀ s₁ mg mb fa o pm cd doc a vs ns G Y ho (fd_plain hd) hcd hmg hobj hints hlen hg) fun r s' hq => ?_)
  obtain ⟨rfl, h2, h3, h4⟩ := hq
  exact ⟨.inl ⟨.bool true, .bool true, [], rfl, fun _ => rfl, .bool true, post_true l _, fun _ => ⟨List.Pairwise.nil, fun _ hm => (nomatch hm)⟩⟩, h2, h3, h4⟩

/-! ### rules over ANY heap (no ledger) from facts about the written part K: the library's own take a ledger (News) for what they write -/
section
variable {prog : Program} {w : World} {A : Around} {E : Value → Shared → Prop} {s : Shared} {K : Frag}

/-! the whole heap as the ledger: makes every rule that writes through a ledger a rule over any heap -/
end
end Att

namespace L2
open PySem PySem.Spec PyProof.Rows

theorem vals_ints : ∀ {vs : List Value} {ns : List Int}, IntsAre vs ns → Vals (ns.map V.int) vs
  | _, _, .nil => .nil
  | _, _, .cons n t h => .cons ⟨t, rfl⟩ (vals_ints h)

/-- nothing is tracked but the script, known to the object (or it is an object of the module) -/
noncomputable def Only (H : Hp) : Prop := ∀ b, H b = none ∨ ∃ o xs, H b = some (.frz o (.lst xs))

/-- THE HEAD: the law's promise, at the heap behind the top. F, the promise of the law's def, may use that base is part of the heap (so K.In base, base.Ns mainGlobals mg stand in Mod) -/
theorem law_call {P : Program} {w : World} {K : PySem.W.Frag} {mg mb : Str → Option Value} {CX : CXT} {k : Nat} {fa a : Addr} {fd : FuncData} {x : Str} {sp : Sp} {s₁ : Shared} {vs : List Value} {ns : List Int}
    (KX : K.In s₁.heap) (hns : s₁.heap.Ns mainGlobals mg) (hb : s₁.heap.Ns builtinsNs mb) (hbb : ∀ x : Str, x ≠ "__name__" → mb x = bootBuiltins x) (hlim : s₁.heap.NoLimit) (hg : s₁.gens = #[])
    (ha : s₁.heap.get? a = some { cls := .type "list", data := .seq vs.toArray }) (hi : IntsAre vs ns) (hl : ns.length ≤ sizeLine) (hr : Room k callerA)
    (F : ∀ base : Heap, K.In base → base.Ns mainGlobals mg → FnOk P w K mg base CX k fa fd [x] sp) (hbind : ∀ (s : Shared) (u : Value), BindsTo s fd ⟨[u], []⟩ [(x, u)])
    (hsp : ∀ H : Hp, Only H → SqL K H a (ns.map V.int) → sp [.ref a] H (fun v _ => v = .bl true) fun _ _ _ => False)
    (hCX : ∀ H e s', CX [] H s₁ (fun _ _ _ => False) e s' → False) :
    codeAny (model P w) callerA (.call (.ref fa) ⟨[.ref a], []⟩) (fun r s' => r = .ok (.ret (.bool true)) ∧ OldK s₁.heap s'.heap ∧ s'.os = s₁.os ∧ AllBare s'.gens) s₁ := by
  have rv := vals_ints hi
  have lenV := hi.length
  -- from an abstract heap in which nothing but the script may be tracked
  have core : ∀ H : Hp, Only H → SqL K H a (ns.map V.int) → HOk P w H s₁.heap → (∀ b, H b ≠ none → b = a) → (H a ≠ none → K.lookup a = none) →
      codeAny (model P w) callerA (.call (.ref fa) ⟨[.ref a], []⟩) (fun r s' => r = .ok (.ret (.bool true)) ∧ OldK s₁.heap s'.heap ∧ s'.os = s₁.os ∧ AllBare s'.gens) s₁ := by
    intro H hO hS hok hA hK
    have base_of : ∀ {b : Addr} {o : Obj}, s₁.heap.get? b = some o → H b = none → (hidT s₁.heap H).get? b = some o := fun e n => hidT_get e n
    have noA : ∀ {b : Addr} {o : Obj} {es : Array DictEntry} {ep : Nat}, s₁.heap.get? b = some o → o.data = .dict es ep → H b = none := fun {b o es ep} e d => by
      cases q : H b with
      | none => rfl
      | some u =>
        have e' : b = a := hA b (by rw [q]; simp)
        subst e'
        rw [ha] at e; cases e
        have d' : Data.seq vs.toArray _ = Data.dict es ep := d
        cases d'
    have nsK : ∀ {b : Addr} {m : Str → Option Value}, s₁.heap.Ns b m → (hidT s₁.heap H).Ns b m := fun {b m} ⟨o, es, ep, e, d, r⟩ => ⟨o, es, ep, base_of e (noA e d), d, r⟩
    have hKb : K.In (hidT s₁.heap H) := fun b o e => base_of (KX b o e) (by
      cases q : H b with
      | none => rfl
      | some u =>
        have e' : b = a := hA b (by rw [q]; simp)
        subst e'
        rw [hK (by rw [q]; simp)] at e; cases e)
    have hM : Mod K mg (hidT s₁.heap H) := ⟨hKb, nsK hns, ⟨mb, nsK hb, hbb⟩, let ⟨mc, h1, h2⟩ := hlim; ⟨mc, nsK h1, h2⟩⟩
    have e0 : Env0 P w K mg (hidT s₁.heap H) callerA [] s₁ H := ⟨rfl, hM, fun b o e => of_hidT e, Nat.le_of_eq (hidT_size _ _), trivial, fun b hb => absurd (show b ∈ ([] : List Addr) from hb) (by simp), hok, .of_eq hg⟩
    refine codeAny_mono ((F _ hKb (nsK hns)).run callerA [] s₁ H ⟨[.ref a], []⟩ [.ref a] [.ref a] _ _ hr e0 (hbind s₁ (.ref a)) (.cons rfl .nil) (hsp H hO hS)) fun r s' h => ?_
    cases r with
    | error e => exact (hCX H e s' h).elim
    | ok fl =>
      cases fl with
      | next => exact False.elim h
      | brk => exact False.elim h
      | cont => exact False.elim h
      | ret u =>
        obtain ⟨v, H', os, bare, un, hok', r', q⟩ := h
        have q' : v = .bl true := q
        subst q'
        obtain rfl : u = Value.bool true := r'
        refine ⟨rfl, OldK.of_keep fun b o e => ?_, os, bare⟩
        cases q : H b with
        | none => exact un.keep b o e q (by intro z; exact absurd (show b ∈ ([] : List Addr) from z) (by simp)) (by simp)
        | some u =>
          rcases hO b with z | ⟨ob, xs, z⟩
          · rw [q] at z; cases z
          · have z2 := un.frzs b ob _ z
            obtain ⟨e1, _⟩ := hok b _ z
            obtain ⟨e2, _⟩ := hok' b _ z2
            rw [e] at e1; cases e1
            exact e2
  cases hk : K.lookup a with
  | some o =>
    -- the script is one of the module's own objects
    have e := KX a o hk
    rw [ha] at e
    cases e
    refine core (fun _ => none) (fun _ => .inl rfl) (.inr ⟨_, vs.toArray, _, hk, rfl, rfl, rfl, by rw [List.size_toArray, lenV]; exact hl, by simpa using rv⟩) (fun b u z => by have z' : (none : Option HO) = some u := z; cases z') (fun b z => absurd rfl z) fun z => absurd rfl z
  | none =>
    refine core (fun b => if b = a then some (.frz { cls := .type "list", data := .seq vs.toArray } (.lst (ns.map V.int))) else none) (fun b => ?_) (.inl (.inr ⟨{ cls := .type "list", data := .seq vs.toArray }, if_pos rfl⟩)) (fun b u z => ?_) (fun b z => ?_) fun _ => hk
    · by_cases hb : b = a
      · exact .inr ⟨_, _, if_pos hb⟩
      · exact .inl (if_neg hb)
    · by_cases hb : b = a
      · have z' := (if_pos hb).symm.trans z
        cases z'
        subst hb
        exact ⟨ha, by rw [List.length_map]; exact hl, vs, _, rv, ha⟩
      · have z' := (if_neg hb).symm.trans z
        cases z'
    · by_cases hb : b = a
      · exact hb
      · exact absurd (if_neg hb) z
end L2

namespace L2
open PySem PySem.Spec PyProof.Rows

noncomputable abbrev KOf {K : PySem.W.Frag} {h : Heap} (_ : K.In h) : PySem.W.Frag := K

/-- the goal that k_head leaves (case hc), from the law's promise. F gives the function object fd (K's own) once, then the promise over every base -/
theorem walk_of {l : PySem.W.OpenLaw} {n k : Nat} {q : Program} {loose : List Str} {XP : (Str → Option Value) → Heap → Prop} {YP : World → Heap → Prop} {d : DefRec} {K : Params → PySem.W.Frag} {CX : World → CXT} {sp : World → Sp} {x : Str}
    (hn : l.most = some n) (hn2 : n ≤ sizeLine) (hdf : d.params.defaults = []) (hr : Room k callerA)
    (hY : ∀ (w : World) (h : Heap), YP w h → (K w.params).In h)
    (F : ∀ (w : World) (mg : Str → Option Value) (fa : Addr) (h : Heap), (K w.params).In h → h.Ns mainGlobals mg → mg d.name = some (.ref fa) →
      ∃ fd : FuncData, (∀ (s : Shared) (u : Value), BindsTo s fd ⟨[u], []⟩ [(x, u)]) ∧
        ∀ base : Heap, (K w.params).In base → base.Ns mainGlobals mg → FnOk l.prog w (K w.params) mg base (CX w) k fa fd [x] (sp w))
    (hsp : ∀ (w : World) (H : Hp) (a : Addr) (ns : List Int), ns.length ≤ n → Only H → SqL (K w.params) H a (ns.map V.int) → sp w [.ref a] H (fun v _ => v = .bl true) fun _ _ _ => False)
    (hCX : ∀ (w : World) (H : Hp) (s : Shared) (e : Value) (s' : Shared), CX w [] H s (fun _ _ _ => False) e s' → False) :
    PySem.W.WalkO q loose XP YP l.row.toRowW d [] (fun f vs => PySem.call f vs) := by
  refine Att.attach_call hn hdf fun w s₀ s₁ mg mb fa o pm cd doc a vs ns G Y ho hd hcd hmg hobj hints hlen hg => ?_
  have KX := hY w _ Y
  obtain ⟨fd, hb, hF⟩ := F w mg fa _ KX G.T.g hmg
  exact law_call KX G.T.g G.T.b G.T.builtins G.T.nolimit hg hobj hints (Nat.le_trans hlen hn2) hr hF hb (fun H hO hS => hsp w H a ns hlen hO hS) fun H e s' => hCX w H s₁ e s'
/-- the same where the promise hangs on the written part alone: (sp := My.sp_law), no hole under a binder -/
theorem walk_ofK {l : PySem.W.OpenLaw} {n k : Nat} {q : Program} {loose : List Str} {XP : (Str → Option Value) → Heap → Prop} {YP : World → Heap → Prop} {d : DefRec} {K : Params → PySem.W.Frag} {CX : CXT} {sp : PySem.W.Frag → Sp} {x : Str}
    (hn : l.most = some n) (hn2 : n ≤ sizeLine) (hdf : d.params.defaults = []) (hr : Room k callerA)
    (hY : ∀ (w : World) (h : Heap), YP w h → (K w.params).In h)
    (F : ∀ (w : World) (mg : Str → Option Value) (fa : Addr) (h : Heap), (K w.params).In h → h.Ns mainGlobals mg → mg d.name = some (.ref fa) →
      ∃ fd : FuncData, (∀ (s : Shared) (u : Value), BindsTo s fd ⟨[u], []⟩ [(x, u)]) ∧
        ∀ base : Heap, (K w.params).In base → base.Ns mainGlobals mg → FnOk l.prog w (K w.params) mg base CX k fa fd [x] (sp (K w.params)))
    (hsp : ∀ (K : PySem.W.Frag) (H : Hp) (a : Addr) (ns : List Int), ns.length ≤ n → Only H → SqL K H a (ns.map V.int) → sp K [.ref a] H (fun v _ => v = .bl true) fun _ _ _ => False)
    (hCX : ∀ (H : Hp) (s : Shared) (e : Value) (s' : Shared), CX [] H s (fun _ _ _ => False) e s' → False) :
    PySem.W.WalkO q loose XP YP l.row.toRowW d [] (fun f vs => PySem.call f vs) :=
  walk_of (K := K) (CX := fun _ => CX) (sp := fun w => sp (K w.params)) hn hn2 hdf hr hY F (fun w H a ns h1 h2 h3 => hsp (K w.params) H a ns h1 h2 h3) fun _ H s e s' => hCX H s e s'
end L2

/-! SHORT WORDS over the layer: a def of the text, its body, what a loop and a test want. -/
namespace L2
open PySem PySem.Spec PyProof.Rows

/-! ### the text by places -/
/-- the j-th statement of a class's body -/
noncomputable def inClass (s : Stmt) (j : Nat) : Stmt := match s with
  | .ClassDef _ _ _ body _ _ _ _ _ _ _ => body.getD j (.Pass ⟨0, 0, 0, 0⟩)
  | _ => .Pass ⟨0, 0, 0, 0⟩
noncomputable def defArgs (s : Stmt) : Arguments := match s with
  | .FunctionDef _ a _ _ _ _ _ _ _ _ => a
  | _ => { posonlyargs := [], args := [], vararg := none, kwonlyargs := [], kw_defaults := [], kwarg := none, defaults := [] }
noncomputable def defBody (s : Stmt) : List Stmt := match s with
  | .FunctionDef _ _ b _ _ _ _ _ _ _ => b
  | _ => []
noncomputable def defScope (s : Stmt) : Scope := match s with
  | .FunctionDef _ _ _ _ _ _ sc _ _ _ => sc
  | _ => { kind := .function, names := [], isGenerator := false, isCoroutine := false }

/-! ### no exception leaves a def -/
noncomputable abbrev CX0 : CXT := fun _ _ _ _ _ _ => False
noncomputable abbrev E0 : XK := fun _ _ _ => False
theorem pass0 {X : Cx} : Passes CX0 X E0 := fun _ _ _ _ _ _ _ h => h.elim

/-! ### a def (or method) of the text as it stands behind the top -/
structure Fun (K : PySem.W.Frag) (x qual : Str) (st : Stmt) (f : Addr) (fd : FuncData) : Prop where
  ex : ∃ (oc : Value) (od : Option Addr) (kV doc pm : Value) (an : Option Addr) (cdv ct : Value) (osl : Array (Option Value)),
    fd = PySem.W.fnOf x qual (defArgs st) (defBody st) (defScope st) .none kV doc pm an cdv ct ∧ K.lookup f = some ⟨oc, od, .func fd, osl⟩ ∧ PySem.W.codeIn K cdv qual = true
  kp : PySem.W.keepIn K (.ref f) = true
section
variable {P : Program} {w : World} {K : PySem.W.Frag} {mg : Str → Option Value} {base : Heap}
/-- THE RULE for a def: its body as a term of rules, and the reading of that term -/
theorem Fun.ok {x qual : Str} {st : Stmt} {f : Addr} {fd : FuncData} {N ps : List Str} {k : Nat} {sp : Sp} (F : Fun K x qual st f fd) (S : FnScope N ps (defScope st)) (len : ∀ vs H Q E, sp vs H Q E → vs.length = ps.length)
    (hbody : ∀ (cdv : Value) (A : Around) (outer : List Env) (s : Shared) (H : Hp) (vs : List V) (Q : VK) (E : XK), Room k (A.deeper (envOfC qual (defScope st) s.heap.objs.size f cdv)) → sp vs H Q E →
      ∃ t, PSs (cxOf CX0 P w K mg base N qual (defScope st) f cdv A outer s H E).nox (defBody st) t ∧ t { nx := fun _ H' => Q .non H', rt := Q } (start N vs) H) : FnOk P w K mg base CX0 (k + 1) f fd ps sp := by
  obtain ⟨oc, od, kV, doc, pm, an, cdv, ct, osl, rfl, lk, hcd⟩ := F.ex
  refine fn_of lk hcd S len fun A outer s H vs Q E hr hsp => ?_
  obtain ⟨t, h, q⟩ := hbody cdv A outer s H vs Q E hr hsp
  exact ⟨t, h.nox, q⟩
/-- how its arguments bind (no defaults): h is «fun _ _ _ _ _ _ us hl => match us, hl with | [_, _], _ => rfl», one _ a parameter -/
theorem Fun.binds {x qual : Str} {st : Stmt} {f : Addr} {fd : FuncData} {ps : List Str} (F : Fun K x qual st f fd)
    (h : ∀ (kV doc pm : Value) (an : Option Addr) (cdv ct : Value) (us : List Value), us.length = ps.length → bindArgs (PySem.W.fnOf x qual (defArgs st) (defBody st) (defScope st) .none kV doc pm an cdv ct) ⟨us, []⟩ = pure (ps.zip us)) : Binds K fd ps [] := by
  obtain ⟨oc, od, kV, doc, pm, an, cdv, ct, osl, rfl, lk, hcd⟩ := F.ex
  exact .all (h kV doc pm an cdv ct)
theorem fun_mk {x qual : Str} {st : Stmt} {f : Addr} {oc : Value} {od an : Option Addr} {osl : Array (Option Value)} {kV doc pm cdv ct : Value} (l : K.lookup f = some ⟨oc, od, .func (PySem.W.fnOf x qual (defArgs st) (defBody st) (defScope st) .none kV doc pm an cdv ct), osl⟩)
    (c : PySem.W.codeIn K cdv qual = true) (k : PySem.W.keepIn K (.ref f) = true) : Fun K x qual st f (PySem.W.fnOf x qual (defArgs st) (defBody st) (defScope st) .none kV doc pm an cdv ct) := ⟨⟨oc, od, kV, doc, pm, an, cdv, ct, osl, rfl, l, c⟩, k⟩
end
theorem small1000 {n : Nat} (h : n ≤ 1000) : n < sizeLine := Nat.lt_of_le_of_lt h (by decide)

/-! ### expressions in short: the name that stands in the i-th slot -/
section
variable {X : Cx}
theorem pv (i : Nat) {x : Str} {pos : Pos} (hN : X.N[i]? = some x := by rfl) (hv : Vis X.env.scope x := by first | exact Or.inl rfl | exact Or.inr (Or.inl rfl) | exact Or.inr (Or.inr rfl)) (hd : (x == ("__debug__" : Str)) = false := by decide)
    (hcd : (x == ("__classdict__" : Str)) = false := by decide) : PE X (.Name x pos) (tVar i) := pe_var hN hv hd hcd
end

/-! ### tests -/
theorem iteF {A B : Prop} (h : B) : if false = true then A else B := by
  rw [if_neg Bool.false_ne_true]
  exact h
theorem iteT {A B : Prop} (h : A) : if true = true then A else B := by
  rw [if_pos rfl]
  exact h
theorem ite2 {c A B : Prop} [Decidable c] (h1 : c → A) (h2 : ¬ c → B) : if c then A else B := by
  by_cases h : c
  · rw [if_pos h]
    exact h1 h
  · rw [if_neg h]
    exact h2 h
/-! ### heaps -/
/-- all that was tracked is as it was -/
noncomputable def Same (H H' : Hp) : Prop := ∀ b o, H b = some o → H' b = some o
theorem Same.refl (H : Hp) : Same H H := fun _ _ h => h
theorem Same.trans {H H1 H2 : Hp} (a : Same H H1) (b : Same H1 H2) : Same H H2 := fun c o h => b c o (a c o h)
theorem Same.seq {K : PySem.W.Frag} {H H' : Hp} {a : Addr} {xs : List V} (e : Same H H') (h : SqL K H a xs) : SqL K H' a xs := by
  rcases h with (h | ⟨o, h⟩) | h
  · exact .inl (.inl (e _ _ h))
  · exact .inl (.inr ⟨o, e _ _ h⟩)
  · exact .inr h

end L2
namespace L2
open PySem PySem.Spec PyProof.Rows

/-! ### a comprehension's block -/
section
variable {X : Cx}
noncomputable abbrev cxComp (X : Cx) (N' : List Str) (scope : Scope) (cl : List (Str × Addr)) (C : Addr) (ex : List Addr) (s : Shared) (H : Hp) : Cx where
  prog := X.prog
  w := X.w
  K := X.K
  mg := X.mg
  base := X.base
  A := X.A
  N := N'
  s₀ := s
  H₀ := H
  env := compEnvC scope cl C X.env
  outer := X.stack
  stack := X.stack
  ex := ex
  fn := fun x => (cl.lookup x).isNone
  calm := X.calm
  pn := []
  xe := fun _ _ => False
noncomputable def PIfs (X : Cx) (ifs : List Expr) (t : TT) : Prop :=
  ∀ (pins : List (Addr × Obj)) (s : Shared) (σ : St) (H : Hp) (Q : Bool → Hp → Prop), Inv X pins σ H s → t σ H Q →
    wpAny (model X.prog X.w) X.A (forIn ifs true fun c r => if r = true then do let ok ← isTrue c X.env (eval c X.env); pure (ForInStep.yield ok) else pure (ForInStep.yield r)) (TP X pins σ Q) X.xe s
noncomputable def tYes : TT := fun _ H Q => Q true H
theorem pifs_nil : PIfs X [] tYes := fun _ _ _ H _ I h => wpAny_tests_nil ⟨H, I, h⟩
/-- what was known of the slots is still so -/
noncomputable def Wk (σ σ2 : St) : Prop := σ.length = σ2.length ∧ ∀ (i : Nat) v, σ[i]? = some (some v) → σ2[i]? = some (some v)
noncomputable def compSt (n : Nat) (js : List Nat) (σ : St) : St := List.replicate n none ++ js.map fun j => (σ[j]?).join
noncomputable def tComp (wi : TI) (g : TG) (tt : TT) (te : TE) (n : Nat) (js : List Nat) : TE := fun σ H Q => wi σ H fun J H1 => ∀ D, H1 D = none → ∃ W : Nat → Nat → List V → Hp → Prop, (∃ m, W 0 m [] (upd H1 D (.lst []))) ∧ ∀ i m acc H2, W i m acc H2 →
  (J.stop i H2 ∧ Q (.ref D) H2) ∨ (J.go i H2 ∧ ∃ N : List V → Hp → Prop, (∀ acc' H', N acc' H' → ∃ m', m' < m ∧ W (i + 1) m' acc' H') ∧ ∀ x H3, J.yld i H2 x H3 → g x (compSt n js σ) H3 fun σ2 H4 => tt σ2 H4 fun b H5 =>
    if b = true then te σ2 H5 fun y H6 => H6 D = some (.lst acc) ∧ acc.length < sizeLine ∧ N (acc ++ [y]) (upd H6 D (.lst (acc ++ [y]))) else N acc H5)

theorem inv_comp {pins : List (Addr × Obj)} {σ : St} {H : Hp} {s : Shared} {fp : List Addr} {scope : Scope} {cl : List (Str × Addr)} {own : List Str} {fr : List (Str × Nat)} {h1 : Heap} {m0 : Str → Option Value} {tk : Nat}
    (I : Inv X pins σ H s) (hf : ∀ b ∈ fp, FpOk X pins H b) (hlt : ∀ b ∈ fp, b < s.heap.objs.size) (hkind : scope.kind = .function)
    (hcl : ∀ x c, cl.lookup x = some c → X.env.cells.lookup x = some c)
    (hkin : ∀ x, ((relabel scope X.env).names.lookup x = some .cell ∨ (relabel scope X.env).names.lookup x = some .free) → ∃ c, cl.lookup x = some c)
    (hfr : ∀ p ∈ fr, X.N[p.2]? = some p.1 ∧ X.env.kindOf p.1 = some .cell)
    (hvis : ∀ p ∈ fr, (relabel scope X.env).names.lookup p.1 = some .cell)
    (hn : h1.Ns s.heap.objs.size m0) (kk : ∀ b u, s.heap.get? b = some u → h1.get? b = some u) :
    Inv (cxComp X (own ++ fr.map (·.1)) scope cl s.heap.objs.size fp s H) [] (compSt own.length (fr.map (·.2)) σ) H { s with heap := h1, toks := tk } := by
  refine ⟨⟨I.ok.mod, hkind, I.ok.glob, I.ok.blt, Nat.le_refl _, fun x y c e1 e2 => I.ok.inj x y c (hcl x c e1) (hcl y c e2), hkin, fun x c h e => ?_, I.ok.hd, I.ok.frames, .inl rfl, fun b hb => ?_, I.bs, Nat.le_trans I.ok.bsz I.sz, fun b o e hb => ?_, fun b hb z => ?_, I.stack, I.stkFree⟩,
    rfl, I.bare, Un.kept kk, ⟨m0, hn, fun i x v e1 e2 e3 => ?_⟩, fun x c e => ?_, I.hok.fresh (Nat.le_refl _), fun x c e => I.freeC x c (hcl x c e), fun p hp => absurd (show p ∈ ([] : List (Addr × Obj)) from hp) (by simp), I.hok.kept kk, ?_⟩
  · have h' : (cl.lookup x).isNone = true := h
    have e' : cl.lookup x = some c := e
    rw [e'] at h'; cases h'
  · exact ⟨Nat.ne_of_lt (hlt b hb), fun x c e => (hf b hb).2.2.2.2.1 x c (hcl x c e)⟩
  · rcases (hf b hb).2.2.2.1 with z | z
    · exact I.ok.noex b o e z
    · exact absurd (Nat.lt_of_lt_of_le (Heap.lt_size (I.ok.bs b o e).1) z) (Nat.lt_irrefl _)
  · rcases List.mem_cons.mp (I.stkSub b z) with e | e
    · exact (hf b hb).2.1 e
    · exact (hf b hb).2.2.1 e
  · have e1' : (own ++ fr.map (·.1))[i]? = some x := e1
    have e2' : (List.replicate own.length none ++ (fr.map (·.2)).map fun j => (σ[j]?).join)[i]? = some (some v) := e2
    by_cases hi : i < own.length
    · rw [List.getElem?_append_left (by simpa using hi), List.getElem?_replicate] at e2'
      split at e2' <;> cases e2'
    · rw [List.getElem?_append_right (by omega)] at e1'
      rw [List.getElem?_append_right (by simpa using hi)] at e2'
      simp only [List.length_replicate, List.getElem?_map, Option.map_map] at e1' e2'
      cases q : fr[i - own.length]? with
      | none => rw [q] at e1'; cases e1'
      | some p =>
        rw [q] at e1' e2'
        simp only [Option.map_some, Option.some.injEq] at e1' e2'
        subst e1'
        have hp : p ∈ fr := List.mem_of_getElem? q
        obtain ⟨m, _, hl⟩ := I.loc
        have e3' : σ[p.2]? = some (some v) := by
          cases z : σ[p.2]? with
          | none => rw [Function.comp_apply, z] at e2'; cases e2'
          | some y => rw [Function.comp_apply, z] at e2'; simp only [Option.join] at e2'; rw [← e2']; rfl
        obtain ⟨u, r, l⟩ := hl p.2 p.1 v (hfr p hp).1 e3' (.inr (.inl (hfr p hp).2))
        refine ⟨u, r, ?_⟩
        rcases l with ⟨k, _⟩ | ⟨_, c, hc, z⟩
        · rw [(hfr p hp).2] at k; cases k
        · obtain ⟨c', hc'⟩ := hkin p.1 (.inl (hvis p hp))
          have e4 := hcl _ _ hc'
          rw [hc] at e4; cases e4
          obtain ⟨o, ho, hd⟩ := z
          exact .inr ⟨.inl (hvis p hp), c, hc', ⟨o, kk _ _ ho, hd⟩⟩
  · obtain ⟨v, o, ho, hd⟩ := I.cell x c (hcl x c e)
    exact ⟨v, o, kk _ _ ho, hd⟩
  · show (compSt own.length (fr.map (·.2)) σ).length = (own ++ fr.map (·.1)).length
    simp [compSt]

theorem compLoop_any {prog : Program} {w : World} {A : Around} {R : Result → Shared → Prop} {s : Shared} {elt target iter : Expr} {ifs : List Expr} {scope : Scope} {pos : Pos} {it acc : Value} {env : Env} (I : Nat → Shared → Prop)
    (turn : ∀ n s, I n s → wpAny (model prog w) A (pyNext it) (fun r s₁ => match r with
      | none => R (.ok .next) s₁
      | some v => wpAny (model prog w) A (letOwnedTupleGo target it v) (fun _ s₁' => wpAny (model prog w) A (assign target env v) (fun _ s₂ =>
          wpAny (model prog w) A (forIn ifs true fun c r => if r = true then do let ok ← isTrue c env (eval c env); pure (ForInStep.yield ok) else pure (ForInStep.yield r)) (fun ok s₃ =>
            if ok = true then wpAny (model prog w) A (eval elt env) (fun x s₄ =>
              wpAny (model prog w) A (call (.builtin "list.append") [acc, x]) (fun _ s₅ => ∃ m, m < n ∧ I m s₅) (notedBy (model prog w) A env fun e s' => R (.error e) s') s₄) (notedBy (model prog w) A env fun e s' => R (.error e) s') s₃
            else ∃ m, m < n ∧ I m s₃) (notedBy (model prog w) A env fun e s' => R (.error e) s') s₂) (notedBy (model prog w) A env fun e s' => R (.error e) s') s₁') (notedBy (model prog w) A env fun e s' => R (.error e) s') s₁) (notedBy (model prog w) A env fun e s' => R (.error e) s') s)
    (n : Nat) (h : I n s) :
    codeAny (model prog w) A (.compLoop (.ListComp elt [⟨target, iter, ifs, 0⟩] scope pos) 0 it acc env) R s := by
  refine codeAny_loop rfl I (fun n s hI => ?_) n h
  show wpAny _ A ((compTurn (.ListComp elt [⟨target, iter, ifs, 0⟩] scope pos) 0 it acc env).onRaise (fun x => do noteFrame x env; theTreesLotGoes x)) _ _ s
  refine wpAny_noted ?_
  rw [compTurn_list]
  refine wpAny_bind (wpAny_standAt (wpAny_bind (wpAny_mono (turn n s hI) (fun r s₁ h₁ => ?_) fun _ _ h' => h')))
  cases r with
  | none => exact wpAny_pure h₁
  | some v =>
    refine wpAny_bind (wpAny_mono h₁ (fun _ s₁' h₁' => ?_) fun _ _ h' => h')
    refine wpAny_bind (wpAny_mono h₁' (fun _ s₂ h₂ => wpAny_bind (wpAny_mono h₂ (fun ok s₃ h₃ => ?_) fun _ _ h' => h')) fun _ _ h' => h')
    cases ok with
    | false => exact wpAny_pure ⟨rfl, h₃⟩
    | true =>
      exact wpAny_bind (wpAny_bind (wpAny_mono h₃ (fun x s₄ h₄ => wpAny_bind (wpAny_mono h₄ (fun _ s₅ h₅ => wpAny_pure (wpAny_pure ⟨rfl, h₅⟩)) fun _ _ h' => h')) fun _ _ h' => h'))

theorem comp_block {elt tg iter : Expr} {ifs : List Expr} {scope : Scope} {pos : Pos} {g : TG} {tt : TT} {te : TE} {own : List Str} {fr : List (Str × Nat)} {cl : List (Str × Addr)}
    {pins : List (Addr × Obj)} {σ : St} {H : Hp} {s : Shared} {Q : VK} {it D : Addr} {fp : List Addr} {tn : Nat → Heap → Prop} {J : It} {W : Nat → Nat → List V → Hp → Prop} {m0 : Nat} {RR : Value → Addr → Result → Shared → Prop}
    (hRR : ∀ (s6 : Shared) (H5 : Hp) (m : Str → Option Value), Inv X pins σ H5 s6 → s6.heap.Ns s.heap.objs.size m → FpOk X pins H5 s.heap.objs.size → Q (.ref D) H5 → RR (.ref D) s.heap.objs.size (.ok .next) s6)
    (hc : X.calm = true) (hkind : scope.kind = .function) (hnc : ∀ y ∈ scope.names, y.2 ≠ .cell)
    (hcl : ∀ x c, cl.lookup x = some c → X.env.cells.lookup x = some c)
    (hkin : ∀ x, ((relabel scope X.env).names.lookup x = some .cell ∨ (relabel scope X.env).names.lookup x = some .free) → ∃ c, cl.lookup x = some c)
    (hfr : ∀ p ∈ fr, X.N[p.2]? = some p.1 ∧ X.env.kindOf p.1 = some .cell) (hvis : ∀ p ∈ fr, (relabel scope X.env).names.lookup p.1 = some .cell)
    (hw : ∀ x σ H R, σ.length = own.length + fr.length → (∀ (i : Nat), i < own.length → σ[i]? = some none) → g x σ H R → g x σ H fun σ2 H2 => Wk σ σ2 ∧ R σ2 H2)
    (hg : ∀ C ex s H, PG (cxComp X (own ++ fr.map (·.1)) scope cl C ex s H) tg g)
    (ht : ∀ C ex s H, PIfs (cxComp X (own ++ fr.map (·.1)) scope cl C ex s H) ifs tt)
    (he : ∀ C ex s H, PE (cxComp X (own ++ fr.map (·.1)) scope cl C ex s H) elt te)
    (I : Inv X pins σ H s) (T : Turn X.prog X.w X.K tg J fp it tn) (st : tn 0 s.heap) (hf : ∀ b ∈ fp, FpOk X pins H b) (w0 : W 0 m0 [] H)
    (turn : ∀ i m acc H2, W i m acc H2 → (J.stop i H2 ∧ Q (.ref D) H2) ∨ (J.go i H2 ∧ ∃ N : List V → Hp → Prop, (∀ acc' H', N acc' H' → ∃ m', m' < m ∧ W (i + 1) m' acc' H') ∧ ∀ x H3, J.yld i H2 x H3 → g x (compSt own.length (fr.map (·.2)) σ) H3 fun σ2 H4 => tt σ2 H4 fun b H5 =>
      if b = true then te σ2 H5 fun y H6 => H6 D = some (.lst acc) ∧ acc.length < sizeLine ∧ N (acc ++ [y]) (upd H6 D (.lst (acc ++ [y]))) else N acc H5)) :
    wpAny (model X.prog X.w) X.A (newFunctionEnv scope X.env.globals cl [] X.env.qual none .none (some X.env)) (fun cenv s₄ =>
      codeAny (model X.prog X.w) X.A (.compStart (.ListComp elt [⟨tg, iter, ifs, 0⟩] scope pos) 0 (.ref it) (.ref D) { cenv with scope := relabel scope X.env })
        (RR (.ref D) cenv.locals) s₄) X.xe s := by
  have hlt : ∀ b ∈ fp, b < s.heap.objs.size := fun b hb => by
    obtain ⟨o, e, _⟩ := T.obj 0 _ st b hb
    exact Heap.lt_size e
  refine wpAny_newFunctionEnv hnc (by intro y hy; simp at hy) (fun h₁ hns hsb => ?_) hkind
  have kk : ∀ b u, s.heap.get? b = some u → h₁.get? b = some u := fun b u e => (hsb.2 b (Nat.ne_of_lt (Heap.lt_size e))).trans (Heap.get?_push_of_some _ e)
  have I4 : Inv (cxComp X (own ++ fr.map (·.1)) scope cl s.heap.objs.size fp s H) [] (compSt own.length (fr.map (·.2)) σ) H { s with heap := h₁, toks := s.toks + ([] : List (Str × Value)).length } :=
    inv_comp I hf hlt hkind hcl hkin hfr hvis hns kk
  have st4 : tn 0 h₁ := T.keep _ _ _ st fun b _ o e => kk b o e
  have hσ : (compSt own.length (fr.map (·.2)) σ).length = own.length + fr.length := by simp [compSt]
  have hσ0 : ∀ (i : Nat), i < own.length → (compSt own.length (fr.map (·.2)) σ)[i]? = some none := fun i hi => by
    unfold compSt
    rw [List.getElem?_append_left (by simpa using hi), List.getElem?_replicate, if_pos hi]
  have stat : ∀ {H' : Hp}, (∀ b ∈ fp, H' b = none) → ∀ b ∈ fp, FpOk (cxComp X (own ++ fr.map (·.1)) scope cl s.heap.objs.size fp s H) [] H' b := fun hn b hb =>
    ⟨hn b hb, Nat.ne_of_lt (hlt b hb), fun z => (List.mem_cons.mp (I.stkSub b z)).elim (hf b hb).2.1 (hf b hb).2.2.1, .inl hb, fun x c e => (hf b hb).2.2.2.2.1 x c (hcl x c e), fun p hp => absurd (show p ∈ ([] : List (Addr × Obj)) from hp) (by simp)⟩
  have loop : ∀ s4 : Shared, s4 = { s with heap := h₁, toks := s.toks + ([] : List (Str × Value)).length } →
      codeAny (model X.prog X.w) X.A (.compLoop (.ListComp elt [⟨tg, iter, ifs, 0⟩] scope pos) 0 (.ref it) (.ref D) (compEnvC scope cl s.heap.objs.size X.env))
        (RR (.ref D) s.heap.objs.size) s4 := by
    rintro s4 rfl
    refine compLoop_any (fun n s' => ∃ i acc H', Inv (cxComp X (own ++ fr.map (·.1)) scope cl s.heap.objs.size fp s H) [] (compSt own.length (fr.map (·.2)) σ) H' s' ∧ tn i s'.heap ∧ (∀ b ∈ fp, H' b = none) ∧ W i n acc H') ?_ m0
      ⟨0, [], H, I4, st4, fun b hb => (hf b hb).1, w0⟩
    rintro n s5 ⟨i, acc, H5, I5, st5, fr5, w5⟩
    rcases turn i n acc H5 w5 with ⟨stop, q⟩ | ⟨go, N, hN, step⟩
    · refine wpAny_mono (T.done (cxComp X (own ++ fr.map (·.1)) scope cl s.heap.objs.size fp s H) rfl rfl rfl hc i [] s5 _ H5 _ I5 (stat fr5) st5 stop) (fun r s6 ⟨hr, I6⟩ => ?_) (fun _ _ z => z)
      subst hr
      obtain ⟨m6, hn6, _⟩ := id I6.loc
      have I7 : Inv X pins σ H5 s6 := I.call' (ch := fp) I6.os I6.base I6.hok I6.bare (fun b hb => ⟨(hf b hb).2.2.2.1, (hf b hb).2.1, (hf b hb).2.2.2.2.1, (hf b hb).2.2.2.2.2⟩)
      exact hRR s6 H5 m6 I7 hn6 (I.fpOk (H' := H5) (Nat.le_refl _) I6.free) q
    · refine wpAny_mono (T.item (cxComp X (own ++ fr.map (·.1)) scope cl s.heap.objs.size fp s H) rfl rfl rfl hc i [] s5 _ H5 _ I5 (stat fr5) st5 go) (fun r s6 ⟨u, hr, h6⟩ => ?_) (fun _ _ z => z)
      subst hr
      refine wpAny_mono h6 (fun _ s7 ⟨x, H7, I7, r7, y7, st7, fr7⟩ => ?_) (fun _ _ z => z)
      have I7' := I7.pinned (stat fr7) (T.obj _ _ st7)
      refine wpAny_mono (hg s.heap.objs.size fp s H _ s7 _ H7 x u _ I7' r7 (hw x _ H7 _ hσ hσ0 (step x H7 y7))) (fun _ s8 ⟨σ8, H8, I8, wk, q8⟩ => ?_) (fun _ _ z => False.elim z)
      have again : ∀ {s10 : Shared} {H10 : Hp} {acc' : List V}, Inv (cxComp X (own ++ fr.map (·.1)) scope cl s.heap.objs.size fp s H) ([] ++ pinsAt fp s7.heap) σ8 H10 s10 → N acc' H10 →
          ∃ m, m < n ∧ ∃ i acc H', Inv (cxComp X (own ++ fr.map (·.1)) scope cl s.heap.objs.size fp s H) [] (compSt own.length (fr.map (·.2)) σ) H' s10 ∧ tn i s10.heap ∧ (∀ b ∈ fp, H' b = none) ∧ W i m acc H' := fun {s10 H10 acc'} I10 n10 => by
        obtain ⟨m', hm, w10⟩ := hN acc' H10 n10
        refine ⟨m', hm, i + 1, acc', H10, I10.unpinned.weak wk.1 wk.2, T.keep _ _ _ st7 fun b hb o e => (I10.pin (b, o) (List.mem_append_right _ (List.mem_append_right _ (mem_pinsAt hb e)))).1, fun b hb => ?_, w10⟩
        obtain ⟨o, e, d⟩ := T.obj _ _ st7 b hb
        exact (I10.pin (b, o) (List.mem_append_right _ (List.mem_append_right _ (mem_pinsAt hb e)))).2.1
      refine wpAny_mono (ht s.heap.objs.size fp s H _ s8 σ8 H8 _ I8 q8) (fun b s9 ⟨H9, I9, q9⟩ => ?_) (fun _ _ z => False.elim z)
      cases b with
      | false =>
        exact again I9 q9
      | true =>
        refine wpAny_mono (he s.heap.objs.size fp s H _ s9 σ8 H9 _ I9 q9) (fun y s10 ⟨yv, H10, I10, r10, hD, hl, n10⟩ => ?_) (fun _ _ z => False.elim z)
        refine wpAny_mono (mt_append (X := cxComp X (own ++ fr.map (·.1)) scope cl s.heap.objs.size fp s H) _ s10 σ8 H10 (.ref D) [yv] (.ref D) [y] (fun _ H' => H' = upd H10 D (.lst (acc ++ [yv]))) I10 rfl (.cons r10 .nil) ⟨D, acc, yv, rfl, rfl, hD, hl, rfl⟩) (fun _ s11 ⟨_, H11, I11, _, e11⟩ => ?_) (fun _ _ z => False.elim z)
        subst e11
        exact again I11 n10
  exact codeAny_compStart_list (loop _ rfl) (T.self _ 0 _ _ _ st4 (loop _ rfl))

theorem pe_lcomp {elt tg iter : Expr} {ifs : List Expr} {scope : Scope} {pos : Pos} {wi : TI} {g : TG} {tt : TT} {te : TE} (own : List Str) (fr : List (Str × Nat)) (cl : List (Str × Addr))
    (hc : X.calm = true) (hclos : closureFor scope X.env = pure cl) (hkind : scope.kind = .function) (hnc : ∀ y ∈ scope.names, y.2 ≠ .cell)
    (hnames : ∀ y ∈ scope.names, y.2 = .local → scope.names.lookup y.1 = some .local)
    (hcl : ∀ x c, cl.lookup x = some c → X.env.cells.lookup x = some c)
    (hkin : ∀ x, ((relabel scope X.env).names.lookup x = some .cell ∨ (relabel scope X.env).names.lookup x = some .free) → ∃ c, cl.lookup x = some c)
    (hfr : ∀ p ∈ fr, X.N[p.2]? = some p.1 ∧ X.env.kindOf p.1 = some .cell) (hvis : ∀ p ∈ fr, (relabel scope X.env).names.lookup p.1 = some .cell)
    (hw : ∀ x σ H R, σ.length = own.length + fr.length → (∀ (i : Nat), i < own.length → σ[i]? = some none) → g x σ H R → g x σ H fun σ2 H2 => Wk σ σ2 ∧ R σ2 H2)
    (hi : PI X tg iter wi)
    (hg : ∀ C ex s H, PG (cxComp X (own ++ fr.map (·.1)) scope cl C ex s H) tg g)
    (ht : ∀ C ex s H, PIfs (cxComp X (own ++ fr.map (·.1)) scope cl C ex s H) ifs tt)
    (he : ∀ C ex s H, PE (cxComp X (own ++ fr.map (·.1)) scope cl C ex s H) elt te)
    (hs : ∀ x, foldedSetIterable iter X.env x = pure x := by intro _; rfl) :
    PE X (.ListComp elt [⟨tg, iter, ifs, 0⟩] scope pos) (tComp wi g tt te own.length (fr.map (·.2))) := by
  intro pins s σ H Q I h
  rw [eval_ListComp]
  refine wpAny_comprehension_free (use := none) rfl hs hclos hkind hnames (thn (hi pins s σ H _ I h) fun v s1 h1 => thn h1 fun itv s2 h2 => ?_)
  obtain ⟨it, fp, tn, J, H2, e, I2, T, st2, f2, h2⟩ := h2
  subst e
  obtain ⟨W, ⟨m0, w0⟩, turn⟩ := h2 s2.heap.objs.size I2.fresh
  have I3 := I2.lnew (its := []) (ys := []) (t' := s2.toks) .nil (Nat.zero_le _)
  refine wpAny_newObj_type (T := "list") ?_
  refine comp_block (RR := fun acc C => compPost (model X.prog X.w) X.A X.xe none (EP X pins σ Q) acc C) (W := W) (m0 := m0) (D := s2.heap.objs.size) (own := own) (fr := fr)
    (fun s6 H5 m I7 hn fc q => ⟨m, hn, fun h7 sb => ⟨.ref s2.heap.objs.size, H5, I7.turned (t' := s6.toks) (fun b o hb e => (sb.2 b hb).trans e) fc.1 fc.2.1 fc.2.2.2.1 fc.2.2.2.2.1 fc.2.2.2.2.2, rfl, q⟩⟩) hc hkind hnc hcl hkin hfr hvis hw hg ht he I3 T (T.keep _ _ _ st2 fun b _ o e => Heap.get?_push_of_some _ e) (fun b hb => ?_) w0 turn
  obtain ⟨o, e, _⟩ := T.obj _ _ st2 b hb
  exact ⟨by rw [upd_ne (Nat.ne_of_lt (Heap.lt_size e))]; exact (f2 b hb).1, (f2 b hb).2⟩

/-- name = [..] -/
theorem ps_setC {elt tg iter : Expr} {ifs : List Expr} {scope : Scope} {pos spos py : Pos} {y : Str} {i : Nat} {wi : TI} {g : TG} {tt : TT} {te : TE} (hN : X.N.Nodup) (hiy : X.N[i]? = some y) (hy : Loc X.env.scope y) (own : List Str) (fr : List (Str × Nat)) (cl : List (Str × Addr))
    (hc : X.calm = true) (hclos : closureFor scope X.env = pure cl) (hkind : scope.kind = .function) (hnc : ∀ y ∈ scope.names, y.2 ≠ .cell)
    (hnames : ∀ y ∈ scope.names, y.2 = .local → scope.names.lookup y.1 = some .local)
    (hcl : ∀ x c, cl.lookup x = some c → X.env.cells.lookup x = some c)
    (hkin : ∀ x, ((relabel scope X.env).names.lookup x = some .cell ∨ (relabel scope X.env).names.lookup x = some .free) → ∃ c, cl.lookup x = some c)
    (hfr : ∀ p ∈ fr, X.N[p.2]? = some p.1 ∧ X.env.kindOf p.1 = some .cell) (hvis : ∀ p ∈ fr, (relabel scope X.env).names.lookup p.1 = some .cell)
    (hw : ∀ x σ H R, σ.length = own.length + fr.length → (∀ (i : Nat), i < own.length → σ[i]? = some none) → g x σ H R → g x σ H fun σ2 H2 => Wk σ σ2 ∧ R σ2 H2)
    (hi : PI X tg iter wi)
    (hg : ∀ C ex s H, PG (cxComp X (own ++ fr.map (·.1)) scope cl C ex s H) tg g)
    (ht : ∀ C ex s H, PIfs (cxComp X (own ++ fr.map (·.1)) scope cl C ex s H) ifs tt)
    (he : ∀ C ex s H, PE (cxComp X (own ++ fr.map (·.1)) scope cl C ex s H) elt te)
    (hsw : swapsWith (.ListComp elt [⟨tg, iter, ifs, 0⟩] scope pos) (some (.Name y py)) spos.line X.env = pure true := by rfl)
    (hs : ∀ x, foldedSetIterable iter X.env x = pure x := by intro _; rfl)
    (hf : X.fn y = true ∨ X.env.scope.names.lookup y = some .local := by first | exact .inl rfl | exact .inr rfl | assumption) :
    PS X (.Assign [.Name y py] (.ListComp elt [⟨tg, iter, ifs, 0⟩] scope pos) spos) (tAsg (tComp wi g tt te own.length (fr.map (·.2))) (gName i)) := by
  intro pins s σ H D I h
  rw [exec_Assign_Name_used _ _ _ _ hsw]
  refine wpAny_bind (wpAny_standAt (wpAny_bind ?_))
  show wpAny _ _ (do let _ ← comprehension (.ListComp elt [⟨tg, iter, ifs, 0⟩] scope pos) scope X.env _ (newList []) false (eval iter X.env) (some (assign (.Name y py) X.env))) _ _ s
  refine wpAny_bind (wpAny_mono (wpAny_comprehension_free (use := some (assign (.Name y py) X.env)) (Q := fun _ s' => SP X pins D .next s') rfl hs hclos hkind hnames
    (thn (hi pins s σ H _ I h) fun v s1 h1 => thn h1 fun itv s2 h2 => ?_)) (fun _ s' hq => wpAny_pure (wpAny_pure hq)) fun _ _ e => e)
  obtain ⟨it, fp, tn, J, H2, e, I2, T, st2, f2, h2⟩ := h2
  subst e
  obtain ⟨W, ⟨m0, w0⟩, turn⟩ := h2 s2.heap.objs.size I2.fresh
  have I3 := I2.lnew (its := []) (ys := []) (t' := s2.toks) .nil (Nat.zero_le _)
  refine wpAny_newObj_type (T := "list") ?_
  refine comp_block (Q := fun v H5 => gName i v σ H5 D.nx) (RR := fun acc C => compPost (model X.prog X.w) X.A X.xe (some (assign (.Name y py) X.env)) (fun _ s' => SP X pins D .next s') acc C) (W := W) (m0 := m0) (D := s2.heap.objs.size) (own := own) (fr := fr)
    (fun s6 H5 m I7 hn fc q => ?_) hc hkind hnc hcl hkin hfr hvis hw hg ht he I3 T (T.keep _ _ _ st2 fun b _ o e => Heap.get?_push_of_some _ e) (fun b hb => ?_) w0 turn
  · show wpAny _ _ (assign (.Name y py) X.env (.ref s2.heap.objs.size)) _ _ _
    refine wpAny_assign_Name (store_ok2 (v := .ref s2.heap.objs.size) I7 hN hiy hy rfl (fun s' I' hsb => ?_) hf)
    obtain ⟨a, sb, ha⟩ := hsb
    have hne : s2.heap.objs.size + 1 ≠ a ∨ True := .inr trivial
    have hCa : a ≠ ({ s2 with heap := s2.heap.push { cls := .type "list", data := .seq ([] : List Value).toArray }, toks := s2.toks } : Shared).heap.objs.size := by
      rcases ha with rfl | ha
      · exact Ne.symm fc.2.1
      · exact fc.2.2.2.2.1 y a ha
    refine ⟨m, hn.sameBut sb (Ne.symm hCa), fun h7 sb7 => ?_⟩
    exact ⟨_, H5, I'.turned (t' := s'.toks) (fun b o hb e => (sb7.2 b hb).trans e) fc.1 fc.2.1 fc.2.2.2.1 fc.2.2.2.2.1 fc.2.2.2.2.2, q⟩
  · obtain ⟨o, e, _⟩ := T.obj _ _ st2 b hb
    exact ⟨by rw [upd_ne (Nat.ne_of_lt (Heap.lt_size e))]; exact (f2 b hb).1, (f2 b hb).2⟩

/-- the closure of a block, by the names in the order in which it is made -/
noncomputable def clOf (env : Env) (xs : List Str) : List (Str × Addr) := xs.map fun x => (x, (env.cells.lookup x).getD 0)
noncomputable def kinOk (names : List (Str × NameKind)) (xs : List Str) : Bool := names.all fun p => (!(decide (p.2 = .cell)) && !(decide (p.2 = .free))) || decide (p.1 ∈ xs)
theorem clOf_lookup {env : Env} : ∀ {xs : List Str} {x : Str}, x ∈ xs → ∃ c, (clOf env xs).lookup x = some c
  | [], _, h => absurd h (by simp)
  | y :: xs, x, h => by
    show ∃ c, List.lookup x ((y, (env.cells.lookup y).getD 0) :: clOf env xs) = some c
    rw [List.lookup_cons]
    cases e : x == y with
    | true => exact ⟨_, rfl⟩
    | false =>
      rcases List.mem_cons.mp h with rfl | h
      · rw [beq_self_eq_true] at e; cases e
      · exact clOf_lookup h
theorem clOf_cells {env : Env} : ∀ {xs : List Str}, (xs.all fun x => (env.cells.lookup x).isSome) = true → ∀ x c, (clOf env xs).lookup x = some c → env.cells.lookup x = some c
  | [], _, x, c, h => by cases h
  | y :: xs, ha, x, c, h => by
    rw [List.all_cons, Bool.and_eq_true] at ha
    have h' : List.lookup x ((y, (env.cells.lookup y).getD 0) :: clOf env xs) = some c := h
    rw [List.lookup_cons] at h'
    cases e : x == y with
    | true =>
      rw [e] at h'
      have exy : x = y := eq_of_beq e
      subst exy
      have hc : (env.cells.lookup x).getD 0 = c := Option.some.inj h'
      cases q : env.cells.lookup x with
      | none => rw [q] at ha; cases ha.1
      | some z => rw [q] at hc; rw [← hc]; rfl
    | false =>
      rw [e] at h'
      exact clOf_cells ha.2 x c h'
theorem kin_of {names : List (Str × NameKind)} {xs : List Str} {env : Env} (h : kinOk names xs = true) : ∀ x, (names.lookup x = some .cell ∨ names.lookup x = some .free) → ∃ c, (clOf env xs).lookup x = some c := fun x hx => by
  refine clOf_lookup ?_
  unfold kinOk at h
  rw [List.all_eq_true] at h
  rcases hx with hx | hx
  · have := h _ (PySem.mem_of_lookup hx)
    simpa using this
  · have := h _ (PySem.mem_of_lookup hx)
    simpa using this
theorem wk_name {n m i : Nat} (hi : i < n) : ∀ x σ H R, σ.length = n + m → (∀ (k : Nat), k < n → σ[k]? = some none) → gName i x σ H R → gName i x σ H fun σ2 H2 => Wk σ σ2 ∧ R σ2 H2 := fun x σ H R _ h0 h =>
  ⟨⟨by simp, fun k v e => by
    by_cases hk : k = i
    · subst hk; rw [h0 _ hi] at e; cases e
    · rw [List.getElem?_set_ne (Ne.symm hk)]; exact e⟩, h⟩

/-- over a range; Pv: what holds at the i-th turn of what was gathered and of the heap -/
theorem comp_range {n : Nat} {g : TG} {tt : TT} {te : TE} {σ0 : St} {lo : Int} {Q : VK} {D : Addr} {H : Hp} (Pv : Nat → List V → Hp → Prop) (h0 : Pv 0 [] H)
    (hs : ∀ i acc H2, i < n → Pv i acc H2 → g (.int (lo + i)) σ0 H2 fun σ2 H4 => tt σ2 H4 fun b H5 =>
      if b = true then te σ2 H5 fun y H6 => H6 D = some (.lst acc) ∧ acc.length < sizeLine ∧ Pv (i + 1) (acc ++ [y]) (upd H6 D (.lst (acc ++ [y]))) else Pv (i + 1) acc H5)
    (hd : ∀ acc H2, Pv n acc H2 → Q (.ref D) H2) :
    ∃ W : Nat → Nat → List V → Hp → Prop, (∃ m, W 0 m [] H) ∧ ∀ i m acc H2, W i m acc H2 →
      ((Itr lo n).stop i H2 ∧ Q (.ref D) H2) ∨ ((Itr lo n).go i H2 ∧ ∃ N : List V → Hp → Prop, (∀ acc' H', N acc' H' → ∃ m', m' < m ∧ W (i + 1) m' acc' H') ∧ ∀ x H3, (Itr lo n).yld i H2 x H3 → g x σ0 H3 fun σ2 H4 => tt σ2 H4 fun b H5 =>
        if b = true then te σ2 H5 fun y H6 => H6 D = some (.lst acc) ∧ acc.length < sizeLine ∧ N (acc ++ [y]) (upd H6 D (.lst (acc ++ [y]))) else N acc H5) := by
  refine ⟨fun i m acc H => m = n - i ∧ i ≤ n ∧ Pv i acc H, ⟨n, by simp, Nat.zero_le _, h0⟩, ?_⟩
  rintro i m acc H2 ⟨rfl, hi, p⟩
  by_cases hlt : i < n
  · refine .inr ⟨hlt, Pv (i + 1), fun acc' H' p' => ⟨n - (i + 1), by omega, rfl, hlt, p'⟩, fun x H3 y => ?_⟩
    obtain ⟨e, y⟩ := y
    subst e y
    exact hs i acc _ hlt p
  · have e : i = n := by omega
    subst e
    exact .inl ⟨Nat.le_refl _, hd acc H2 p⟩
/-- over a list that stays -/
theorem comp_list {K : PySem.W.Frag} {a : Addr} {xs : List V} {g : TG} {tt : TT} {te : TE} {σ0 : St} {Q : VK} {D : Addr} {H : Hp} (Pv : Nat → List V → Hp → Prop) (h0 : Pv 0 [] H) (hl : ∀ i acc H, i ≤ xs.length → Pv i acc H → SqL K H a xs)
    (hs : ∀ i x acc H2, xs[i]? = some x → Pv i acc H2 → g x σ0 H2 fun σ2 H4 => tt σ2 H4 fun b H5 =>
      if b = true then te σ2 H5 fun y H6 => H6 D = some (.lst acc) ∧ acc.length < sizeLine ∧ Pv (i + 1) (acc ++ [y]) (upd H6 D (.lst (acc ++ [y]))) else Pv (i + 1) acc H5)
    (hd : ∀ acc H2, Pv xs.length acc H2 → Q (.ref D) H2) :
    ∃ W : Nat → Nat → List V → Hp → Prop, (∃ m, W 0 m [] H) ∧ ∀ i m acc H2, W i m acc H2 →
      ((Itl K a).stop i H2 ∧ Q (.ref D) H2) ∨ ((Itl K a).go i H2 ∧ ∃ N : List V → Hp → Prop, (∀ acc' H', N acc' H' → ∃ m', m' < m ∧ W (i + 1) m' acc' H') ∧ ∀ x H3, (Itl K a).yld i H2 x H3 → g x σ0 H3 fun σ2 H4 => tt σ2 H4 fun b H5 =>
        if b = true then te σ2 H5 fun y H6 => H6 D = some (.lst acc) ∧ acc.length < sizeLine ∧ N (acc ++ [y]) (upd H6 D (.lst (acc ++ [y]))) else N acc H5) := by
  refine ⟨fun i m acc H => m = xs.length - i ∧ i ≤ xs.length ∧ Pv i acc H, ⟨xs.length, by simp, Nat.zero_le _, h0⟩, ?_⟩
  rintro i m acc H2 ⟨rfl, hi, p⟩
  have q := hl i acc H2 hi p
  by_cases hlt : i < xs.length
  · refine .inr ⟨⟨xs, xs[i], q, by simp [hlt]⟩, Pv (i + 1), fun acc' H' p' => ⟨xs.length - (i + 1), by omega, rfl, hlt, p'⟩, fun x H3 y => ?_⟩
    obtain ⟨e, y⟩ := y
    subst e
    exact hs i x acc _ (y xs q) p
  · have e : i = xs.length := by omega
    subst e
    exact .inl ⟨⟨xs, q, Nat.le_refl _⟩, hd acc H2 p⟩
end

/-! ### deep data -/
mutual
inductive IsD (K : PySem.W.Frag) (H : Hp) : PyData → V → Prop
  | non : IsD K H .none .non
  | bl (b : Bool) : IsD K H (.bool b) (.bl b)
  | int (i : Int) : IsD K H (.int i) (.int i)
  | str (x : Str) : IsD K H (.str x) (.str x)
  | tup {a : Addr} {vs : List V} {ds : List PyData} : SqT K H a vs → IsDs K H ds vs → IsD K H (.tuple ds) (.ref a)
  | lst {a : Addr} {vs : List V} {ds : List PyData} : SqL K H a vs → IsDs K H ds vs → IsD K H (.list ds) (.ref a)
inductive IsDs (K : PySem.W.Frag) (H : Hp) : List PyData → List V → Prop
  | nil : IsDs K H [] []
  | cons {d : PyData} {v : V} {ds : List PyData} {vs : List V} : IsD K H d v → IsDs K H ds vs → IsDs K H (d :: ds) (v :: vs)
end
section
variable {X : Cx} {pins : List (Addr × Obj)} {σ : St} {H : Hp} {s : Shared}
mutual
theorem IsD.reads (I : Inv X pins σ H s) : ∀ {d : PyData} {v : V} {u : Value}, IsD X.K H d v → RelV v u → ∃ as, Reads s.heap u d as
  | _, _, _, .non, r => by cases r; exact ⟨_, .none⟩
  | _, _, _, .bl b, r => by cases r; exact ⟨_, .bool b⟩
  | _, _, _, .int i, r => by obtain ⟨t, rfl⟩ := r; exact ⟨_, .int i t⟩
  | _, _, _, .str x, r => by obtain ⟨t, rfl⟩ := r; exact ⟨_, .str x t⟩
  | _, _, _, .tup h1 h2, r => by
    cases r
    obtain ⟨its, rv, ⟨o, e, c, n, d⟩, hz⟩ := I.tuple h1
    obtain ⟨as, ra⟩ := IsDs.reads I h2 rv
    exact ⟨_, .tuple e c d (by simpa using ra)⟩
  | _, _, _, .lst h1 h2, r => by
    cases r
    obtain ⟨its, rv, pl, hz⟩ := I.list h1
    obtain ⟨o, e, c, n, d⟩ := pl.isList
    obtain ⟨as, ra⟩ := IsDs.reads I h2 rv
    exact ⟨_, .list e c d (by simpa using ra)⟩
theorem IsDs.reads (I : Inv X pins σ H s) : ∀ {ds : List PyData} {vs : List V} {us : List Value}, IsDs X.K H ds vs → Vals vs us → ∃ as, ReadsAll s.heap us ds as
  | _, _, _, .nil, .nil => ⟨_, .nil⟩
  | _, _, _, .cons h t, .cons r rs => by
    obtain ⟨as, ra⟩ := IsD.reads I h r
    obtain ⟨bs, rb⟩ := IsDs.reads I t rs
    exact ⟨_, .cons ra rb⟩
end
noncomputable def rEqD (K : PySem.W.Frag) : R2 := fun x y H Q => ∃ d1 d2, IsD K H d1 x ∧ IsD K H d2 y ∧ d1.canLay0 = true ∧ d2.canLay0 = true ∧ d2.depth ≤ 50 ∧ Q (.bl (PyData.eqv d1 d2)) H
noncomputable def rNeD (K : PySem.W.Frag) : R2 := fun x y H Q => ∃ d1 d2, IsD K H d1 x ∧ IsD K H d2 y ∧ d1.canLay0 = true ∧ d2.canLay0 = true ∧ d2.depth ≤ 50 ∧ Q (.bl (!PyData.eqv d1 d2)) H
theorem op_eqD (hu : X.A.units + 64 < cLine) : OpR X (compareOp .Eq) (rEqD X.K) := by
  intro pins s σ H x y v u Q I rx ry h
  obtain ⟨d1, d2, h1, h2, c1, c2, hd, q⟩ := h
  obtain ⟨as, ra⟩ := IsD.reads I h1 rx
  obtain ⟨bs, rb⟩ := IsD.reads I h2 ry
  exact SeqAt.rcAt_reads ra rb c1 c2 (by omega) _ _ _ _ (show EP X pins σ Q _ s from ⟨.bl _, H, I, rfl, q⟩)
theorem op_neD (hu : X.A.units + 64 < cLine) : OpR X (compareOp .NotEq) (rNeD X.K) := by
  intro pins s σ H x y v u Q I rx ry h
  obtain ⟨d1, d2, h1, h2, c1, c2, hd, q⟩ := h
  obtain ⟨as, ra⟩ := IsD.reads I h1 rx
  obtain ⟨bs, rb⟩ := IsD.reads I h2 ry
  exact SeqAt.rcNeAt_reads ra rb c1 c2 (by omega) _ _ _ _ (show EP X pins σ Q _ s from ⟨.bl _, H, I, rfl, q⟩)

/-! ### more operations -/
noncomputable def rIsi (K : PySem.W.Frag) : List V → Hp → VK → Prop := fun xs H Q => ∃ x n t b, xs = [x, .ty n] ∧ TyOf K H x t ∧ PySem.W.kitOne K t (.type n) = some b ∧ Q (.bl b) H
theorem call_isi : CallR X (.builtin "isinstance") (rIsi X.K) := by
  intro pins s σ H xs us Q I rs h
  obtain ⟨x, n, t, b, rfl, ty, e, q⟩ := h
  cases rs with
  | cons r rr =>
    cases rr with
    | cons r2 rr =>
      cases rr
      cases r2
      exact isinst_ok I r ty e fun tk => ⟨.bl b, H, I.tok _, rfl, q⟩

/-! ### a def as its callers take it -/
structure Df (P : Program) (w : World) (K : PySem.W.Frag) (mg : Str → Option Value) (base : Heap) (k : Nat) (x : Str) (ps : List Str) (sp : Sp) : Prop where
  ex : ∃ f fd, FnOk P w K mg base CX0 k f fd ps sp ∧ Binds K fd ps [] ∧ mg x = some (.ref f) ∧ PySem.W.keepIn K (.ref f) = true
structure Tx (K : PySem.W.Frag) (mg : Str → Option Value) (x : Str) (st : Stmt) (ps : List Str) : Prop where
  ex : ∃ f fd, Fun K x x st f fd ∧ Binds K fd ps [] ∧ mg x = some (.ref f)
theorem Tx.df {P : Program} {w : World} {K : PySem.W.Frag} {mg : Str → Option Value} {base : Heap} {x : Str} {st : Stmt} {N ps : List Str} {k : Nat} {sp : Sp} (T : Tx K mg x st ps) (S : FnScope N ps (defScope st))
    (len : ∀ vs H Q E, sp vs H Q E → vs.length = ps.length)
    (hbody : ∀ (f : Addr) (cdv : Value) (A : Around) (outer : List Env) (s : Shared) (H : Hp) (vs : List V) (Q : VK) (E : XK), Room k (A.deeper (envOfC x (defScope st) s.heap.objs.size f cdv)) → sp vs H Q E →
      ∃ t, PSs (cxOf CX0 P w K mg base N x (defScope st) f cdv A outer s H E).nox (defBody st) t ∧ t { nx := fun _ H' => Q .non H', rt := Q } (start N vs) H) : Df P w K mg base (k + 1) x ps sp := by
  obtain ⟨f, fd, F, b, hm⟩ := T.ex
  exact ⟨f, fd, F.ok S len fun cdv A outer s H vs Q E hr h => hbody f cdv A outer s H vs Q E hr h, b, hm, F.kp⟩
noncomputable def tCF (sp : Sp) (t : TA) : TE := fun σ H Q => t σ H fun vs H1 => sp vs H1 Q E0
theorem pe_df {j k : Nat} {x : Str} {ps : List Str} {sp : Sp} {p pos : Pos} {e : Expr} {es : List Expr} {t : TA} (D : Df X.prog X.w X.K X.mg X.base j x ps sp) (hr : Room k X.A) (ha : PA X (e :: es) t) (hg : Gl X x := by rfl) (hj : j ≤ k := by decide)
    (hdb : (x == ("__debug__" : Str)) = false := by decide) (he : starEach (e :: es) X.env = (false, eval e X.env) :: starEach es X.env := by rfl) (hpl : (backTo pos (starEach es X.env)).any (·.1) = false := by rfl) :
    PE X (.Call (.Name x p) (e :: es) [] pos) (tCF sp t) := by
  obtain ⟨f, fd, F, b, hm, kp⟩ := D.ex
  have h := pe_call (ds := []) (dvs := []) (E := E0) (p := p) (pos := pos) F (hr.mono hj) hg hm kp b .nil pass0 ha hdb he hpl
  have e1 : tCall sp [] E0 t = tCF sp t := by
    funext σ H Q
    unfold tCall tCF
    simp only [List.append_nil]
  rw [e1] at h
  exact h
/-- the builtins that no module hides -/
structure Bn (mg : Str → Option Value) : Prop where
  len : mg "len" = none
  range : mg "range" = none
  isinstance : mg "isinstance" = none
  int : mg "int" = none
  bool : mg "bool" = none
  list : mg "list" = none
  tuple : mg "tuple" = none
  str : mg "str" = none
  dict : mg "dict" = none
  sorted : mg "sorted" = none
  enumerate : mg "enumerate" = none
  min : mg "min" = none
  max : mg "max" = none
  set : mg "set" = none
theorem Same.upd {H : Hp} {a : Addr} {o : HO} (h : H a = none) : Same H (upd H a o) := fun b u e => by rw [upd_ne (ne_of_none e h)]; exact e
end
end L2
namespace L2
open PySem PySem.Spec PyProof.Rows
theorem tx_mk {K : PySem.W.Frag} {h : Heap} {mg : Str → Option Value} {x : Str} {st : Stmt} {ps : List Str} {f : Addr} {oc : Value} {od an : Option Addr} {osl : Array (Option Value)} {kV doc pm cdv ct : Value} (X : K.In h) (G : h.Ns mainGlobals mg)
    (a : PySem.W.nsIn K mainGlobals x = some (some (.ref f)))
    (l : K.lookup f = some ⟨oc, od, .func (PySem.W.fnOf x x (defArgs st) (defBody st) (defScope st) .none kV doc pm an cdv ct), osl⟩)
    (c : PySem.W.codeIn K cdv x = true) (k : PySem.W.keepIn K (.ref f) = true)
    (hb : ∀ (kV doc pm : Value) (an : Option Addr) (cdv ct : Value) (us : List Value), us.length = ps.length → bindArgs (PySem.W.fnOf x x (defArgs st) (defBody st) (defScope st) .none kV doc pm an cdv ct) ⟨us, []⟩ = pure (ps.zip us)) : Tx K mg x st ps :=
  ⟨f, _, fun_mk l c k, (fun_mk l c k).binds hb, PySem.W.mg_of X G a⟩
theorem bn_mk {K : PySem.W.Frag} {h : Heap} {mg : Str → Option Value} (X : K.In h) (G : h.Ns mainGlobals mg)
    (z0 : PySem.W.nsIn K mainGlobals "len" = some none) (z1 : PySem.W.nsIn K mainGlobals "range" = some none) (z2 : PySem.W.nsIn K mainGlobals "isinstance" = some none)
    (z3 : PySem.W.nsIn K mainGlobals "int" = some none) (z4 : PySem.W.nsIn K mainGlobals "bool" = some none) (z5 : PySem.W.nsIn K mainGlobals "list" = some none) (z6 : PySem.W.nsIn K mainGlobals "tuple" = some none)
    (z7 : PySem.W.nsIn K mainGlobals "str" = some none) (z8 : PySem.W.nsIn K mainGlobals "dict" = some none) (z9 : PySem.W.nsIn K mainGlobals "sorted" = some none) (z10 : PySem.W.nsIn K mainGlobals "enumerate" = some none)
    (z11 : PySem.W.nsIn K mainGlobals "min" = some none) (z12 : PySem.W.nsIn K mainGlobals "max" = some none) (z13 : PySem.W.nsIn K mainGlobals "set" = some none) : Bn mg :=
  ⟨PySem.W.mg_none_of X G z0, PySem.W.mg_none_of X G z1, PySem.W.mg_none_of X G z2, PySem.W.mg_none_of X G z3, PySem.W.mg_none_of X G z4, PySem.W.mg_none_of X G z5, PySem.W.mg_none_of X G z6, PySem.W.mg_none_of X G z7, PySem.W.mg_none_of X G z8, PySem.W.mg_none_of X G z9, PySem.W.mg_none_of X G z10, PySem.W.mg_none_of X G z11, PySem.W.mg_none_of X G z12, PySem.W.mg_none_of X G z13⟩
/-- a block cut behind its first statement by a word R of one's own -/
noncomputable def tSeqE (t u : TS) : TS := fun D σ H => ∃ R : St → Hp → Prop, t { D with nx := R } σ H ∧ ∀ σ' H', R σ' H' → u D σ' H'
theorem pss_consE {X : Cx} {st : Stmt} {rest : List Stmt} {t u : TS} (h1 : PS X st t) (h2 : PSs X rest u) : PSs X (st :: rest) (tSeqE t u) := by
  intro pins s σ H D I h
  obtain ⟨R, h, hR⟩ := h
  refine wpAny_execs_cons (thn (h1 pins s σ H { D with nx := R } I h) fun f s1 q => ?_)
  cases f with
  | next =>
    obtain ⟨σ', H', I', q⟩ := q
    exact h2 pins s1 σ' H' D I' (hR σ' H' q)
  | ret v => exact q
  | brk => exact q
  | cont => exact q
theorem len_ok {n : Nat} (h : Nat.ble n 1000 = true) : n ≤ sizeLine := Nat.le_trans (Nat.le_of_ble_eq_true h) (by decide)
end L2
namespace LM
end LM
namespace LM
end LM
namespace LM
end LM
namespace My
open PySem L2 LM PyProof.Rows
noncomputable def isI : V → Bool
  | .int _ => true
  | _ => false
noncomputable def isB : V → Bool
  | .bl _ => true
  | _ => false
theorem kit_int (K : PySem.W.Frag) {H : Hp} {x : V} {n : String} (ty : TyOf K H x (.type n)) : PySem.W.kitOne K (.type n) (.type "int") = some (isI x || isB x) := by
  cases ty <;> kernel_rfl
theorem kit_bool (K : PySem.W.Frag) {H : Hp} {x : V} {n : String} (ty : TyOf K H x (.type n)) : PySem.W.kitOne K (.type n) (.type "bool") = some (isB x) := by
  cases ty <;> kernel_rfl
end My
namespace My
open PySem L2 LM PyProof.Rows
end My
namespace LM
open PyProof.Rows
/-- the lowest cell -/
noncomputable def lowN (c : Nat) : Nat := ((List.range 64).find? c.testBit).getD 64
end LM
namespace L2
end L2
namespace My
open PySem L2 LM PyProof.Rows
end My
namespace My
open PySem L2 LM PyProof.Rows
theorem cutV_ints (ns : List Int) (lo hi : Option Int) : ∃ ms : List Int, cutV (ns.map V.int) lo hi = ms.map V.int ∧ ms.length ≤ ns.length := by
  unfold cutV
  refine ⟨(ns.drop (HT.sIx (ns.map V.int).length 0 lo)).take (HT.sIx (ns.map V.int).length (ns.map V.int).length hi - HT.sIx (ns.map V.int).length 0 lo), ?_, ?_⟩
  · rw [List.map_take, List.map_drop]
  · rw [List.length_take, List.length_drop]
    omega
noncomputable def cellOk : V → Bool
  | .int i => decide (0 ≤ i) && decide (i < 64)
  | _ => false
theorem get_intM {l : List Int} {i : Nat} {y : V} (h : (l.map V.int)[i]? = some y) : ∃ z, l[i]? = some z ∧ y = V.int z := by
  rw [List.getElem?_map] at h
  cases e : l[i]? with
  | none => rw [e] at h; cases h
  | some k => rw [e] at h; exact ⟨k, rfl, (Option.some.inj h).symm⟩
end My
namespace L2
open PySem PySem.Spec PyProof.Rows
section
variable {X : Cx} {K : PySem.W.Frag}
end
theorem gint_mk {K : PySem.W.Frag} {h : Heap} {mg : Str → Option Value} {x : Str} {i : Int} {t : Tok} (X : K.In h) (G : h.Ns mainGlobals mg) (a : PySem.W.nsIn K mainGlobals x = some (some (.int i t))) : ∃ t, mg x = some (.int i t) := ⟨t, PySem.W.mg_of X G a⟩
/-- over a range, whatever is wanted at the end -/
theorem compR {n : Nat} {g : TG} {tt : TT} {te : TE} {σ0 : St} {lo : Int} {Q : Hp → Prop} {D : Addr} {H : Hp} (Pv : Nat → List V → Hp → Prop) (h0 : Pv 0 [] H)
    (hs : ∀ i acc H2, i < n → Pv i acc H2 → g (.int (lo + i)) σ0 H2 fun σ2 H4 => tt σ2 H4 fun b H5 =>
      if b = true then te σ2 H5 fun y H6 => H6 D = some (.lst acc) ∧ acc.length < sizeLine ∧ Pv (i + 1) (acc ++ [y]) (upd H6 D (.lst (acc ++ [y]))) else Pv (i + 1) acc H5)
    (hd : ∀ acc H2, Pv n acc H2 → Q H2) :
    ∃ W : Nat → Nat → List V → Hp → Prop, (∃ m, W 0 m [] H) ∧ ∀ i m acc H2, W i m acc H2 →
      ((Itr lo n).stop i H2 ∧ Q H2) ∨ ((Itr lo n).go i H2 ∧ ∃ N : List V → Hp → Prop, (∀ acc' H', N acc' H' → ∃ m', m' < m ∧ W (i + 1) m' acc' H') ∧ ∀ x H3, (Itr lo n).yld i H2 x H3 → g x σ0 H3 fun σ2 H4 => tt σ2 H4 fun b H5 =>
        if b = true then te σ2 H5 fun y H6 => H6 D = some (.lst acc) ∧ acc.length < sizeLine ∧ N (acc ++ [y]) (upd H6 D (.lst (acc ++ [y]))) else N acc H5) :=
  comp_range (Q := fun _ H => Q H) Pv h0 hs hd
/-- over a list that stays, whatever is wanted at the end -/
theorem compL {K : PySem.W.Frag} {a : Addr} {xs : List V} {g : TG} {tt : TT} {te : TE} {σ0 : St} {Q : Hp → Prop} {D : Addr} {H : Hp} (Pv : Nat → List V → Hp → Prop) (h0 : Pv 0 [] H) (hl : ∀ i acc H, i ≤ xs.length → Pv i acc H → SqL K H a xs)
    (hs : ∀ i x acc H2, xs[i]? = some x → Pv i acc H2 → g x σ0 H2 fun σ2 H4 => tt σ2 H4 fun b H5 =>
      if b = true then te σ2 H5 fun y H6 => H6 D = some (.lst acc) ∧ acc.length < sizeLine ∧ Pv (i + 1) (acc ++ [y]) (upd H6 D (.lst (acc ++ [y]))) else Pv (i + 1) acc H5)
    (hd : ∀ acc H2, Pv xs.length acc H2 → Q H2) :
    ∃ W : Nat → Nat → List V → Hp → Prop, (∃ m, W 0 m [] H) ∧ ∀ i m acc H2, W i m acc H2 →
      ((Itl K a).stop i H2 ∧ Q H2) ∨ ((Itl K a).go i H2 ∧ ∃ N : List V → Hp → Prop, (∀ acc' H', N acc' H' → ∃ m', m' < m ∧ W (i + 1) m' acc' H') ∧ ∀ x H3, (Itl K a).yld i H2 x H3 → g x σ0 H3 fun σ2 H4 => tt σ2 H4 fun b H5 =>
        if b = true then te σ2 H5 fun y H6 => H6 D = some (.lst acc) ∧ acc.length < sizeLine ∧ N (acc ++ [y]) (upd H6 D (.lst (acc ++ [y]))) else N acc H5) :=
  comp_list (Q := fun _ H => Q H) Pv h0 hl hs hd
end L2
namespace L2
open PySem PySem.Spec PyProof.Rows

/-! ### lists of pairs as tables -/
section
variable {κ : Type} [DecidableEq κ]
end


/-! ### a tracked dict, its keys ints and texts or tuples of these -/
section
variable {P : Program} {w : World} {H : Hp} {h : Heap} {a : Addr}
end

section
variable {X : Cx} {pins : List (Addr × Obj)} {σ : St} {H : Hp} {s : Shared} {a : Addr} {y v : V} {u r : Value} {o : Option V} {A : Around} {E : Value → Shared → Prop}

end

section
variable {X : Cx} {pins : List (Addr × Obj)} {σ : St} {H : Hp} {s : Shared} {a : Addr} {kvs : List (Key × V)} {k : Key} {u : Value} {A : Around} {E : Value → Shared → Prop}
end


/-! ### readings and rules -/
section
variable {X : Cx} {o i e value : Expr} {pos pos' tpos : Pos} {td ty tv : TE}
end


/-! ### displays -/
section
variable {X : Cx} {pos : Pos}
end

/-! ### methods -/
section
variable {X : Cx} {pins : List (Addr × Obj)} {σ : St} {H : Hp} {s : Shared} {a : Addr} {y d : V} {u r : Value} {o : Option V} {A : Around} {E : Value → Shared → Prop}
end

section
variable {X : Cx} {o e f : Expr} {apos cpos : Pos} {td ty tx : TE}
end

/-! ### dict(d): a copy -/
section
variable {X : Cx} {pins : List (Addr × Obj)} {σ : St} {H : Hp} {s : Shared} {a : Addr} {kvs : List (Key × V)} {A : Around} {E : Value → Shared → Prop}
end


section
variable {X : Cx} {pins : List (Addr × Obj)} {σ : St} {H : Hp} {s : Shared} {a : Addr} {y : V} {u : Value} {A : Around} {E : Value → Shared → Prop}
end
end L2
namespace L2
open PySem PySem.Spec PyProof.Rows
section
variable {X : Cx}
end
end L2
namespace My
open PySem L2 LM PyProof.Rows
end My
namespace LM
open PyProof.Rows
end LM
namespace My
open PySem L2 LM PyProof.Rows
end My
namespace My
open PySem L2 LM PyProof.Rows
end My
namespace L2
open PySem PySem.Spec PyProof.Rows
section
variable {prog : Program} {w : World} {A : Around} {E : Value → Shared → Prop} {s : Shared} {D kS : Addr} {vs : List Value} {kz : List Int} {ky : List Value} {c1 c2 : Nat} {P : PySem.Fin → Shared → Prop}
end
end L2
namespace L2
open PySem PySem.Spec PyProof.Rows
section
variable {X : Cx} {k : Nat} {f : Addr} {fd : FuncData} {ps : List Str} {sp : Sp}
end
end L2
namespace L2
open PySem PySem.Spec PyProof.Rows
end L2
namespace LM
open PyProof.Rows
end LM
namespace My
open PySem L2 LM PyProof.Rows
end My
namespace L2
open PySem PySem.Spec PyProof.Rows
theorem ObjOk.there {P : Program} {w : World} {H : Hp} {h : Heap} {a : Addr} : ∀ {o : HO}, ObjOk P w H h a o → ∃ ob, h.get? a = some ob
  | .lst _, ⟨_, _, _, _, e⟩ => ⟨_, e⟩
  | .tup _, ⟨_, _, _, o, e, _⟩ => ⟨o, e⟩
  | .dK _, ⟨_, _, _, _, o, _, _, e, _⟩ => ⟨o, e⟩
  | .dT _, ⟨_, _, _, _, o, _, _, e, _⟩ => ⟨o, e⟩
  | .set _ _, x => let ⟨o, e, _⟩ := (show h.SetOf (intKind P w) a _ _ from x).objOf; ⟨o, e⟩
  | .ins _ _ _, ⟨_, _, _, e, _⟩ => ⟨_, e⟩
  | .own _, ⟨o, e⟩ => ⟨o, e⟩
  | .xd _, ⟨_, n, _⟩ => by obtain ⟨o, e, _⟩ := lookIn_ns n; exact ⟨o, e⟩
  | .rng _ _, ⟨_, _, _, e⟩ => ⟨_, e⟩
  | .frz _ _, ⟨e, _⟩ => ⟨_, e⟩
  | .tbl _, e => ⟨_, e⟩
  | .met _ _, e => ⟨_, e⟩
  | .ext _, ⟨_, ⟨o, e⟩, _⟩ => ⟨o, e⟩
section
variable {X : Cx} {pins : List (Addr × Obj)} {σ : St} {H : Hp} {s : Shared}
theorem Inv.untr (I : Inv X pins σ H s) {b : Addr} (e : s.heap.get? b = none) : H b = none := by
  cases q : H b with
  | none => rfl
  | some o =>
    obtain ⟨ob, z⟩ := (I.hok b o q).there
    rw [e] at z
    cases z
/-- the slots of the frames and the new records at ch have changed, nothing else -/
theorem Inv.flown {h' : Heap} {ch : List Addr} {t' : Nat} (I : Inv X pins σ H s)
    (hch : ∀ b ∈ ch, X.s₀.heap.get? b = none ∧ H b = none ∧ b ≠ X.env.locals ∧ (∀ x c, X.env.cells.lookup x = some c → c ≠ b) ∧ ∀ p ∈ X.pn ++ pins, p.1 ≠ b)
    (keep : ∀ b o, b ∉ frs X.stack → b ∉ ch → s.heap.get? b = some o → h'.get? b = some o) (slot : ∀ b o, b ∈ frs X.stack → s.heap.get? b = some o → ∃ sl, h'.get? b = some { o with slots := sl }) :
    Inv X pins σ H { s with heap := h', toks := t' } := by
  have any : ∀ b o, b ∉ ch → s.heap.get? b = some o → ∃ sl, h'.get? b = some { o with slots := sl } := fun b o hc e => by
    by_cases hb : b ∈ frs X.stack
    · exact slot b o hb e
    · exact ⟨o.slots, keep b o hb hc e⟩
  have nch : ∀ b o, X.s₀.heap.get? b = some o → b ∉ ch := fun b o e hb => by rw [(hch b hb).1] at e; cases e
  have nst : ∀ b o, X.s₀.heap.get? b = some o → b ∉ X.fs → b ∉ frs X.stack := fun b o e hb z => by
    rcases List.mem_cons.mp (I.stkSub b z) with q | q
    · rw [q] at e
      exact absurd (Nat.lt_of_lt_of_le (Heap.lt_size e) I.ok.above) (Nat.lt_irrefl _)
    · exact hb q
  have cellK : ∀ x c, X.env.cells.lookup x = some c → ∀ v, s.heap.IsCell c v → h'.IsCell c v := fun x c e v ⟨o, ho, hd⟩ => by
    obtain ⟨sl, q⟩ := any c o (fun z => (hch c z).2.2.2.1 x c e rfl) ho
    exact ⟨_, q, hd⟩
  refine ⟨I.ok, I.os, I.bare, ⟨fun b o e n hb hx => ?_, fun b o e n hb hx => ?_, I.base.free, fun b o e hx => ?_, I.base.tups, I.base.frzs, I.base.tbls⟩, ?_, fun x c e => ?_, I.free, I.freeC, fun p hp => ?_, fun b u e => ?_, I.len⟩
  · exact keep b o (nst b o e hb) (nch b o e) (I.base.keep b o e n hb hx)
  · obtain ⟨sl, e1⟩ := I.base.slot b o e n hb hx
    obtain ⟨sl2, e2⟩ := any b _ (nch b o e) e1
    exact ⟨sl2, e2⟩
  · obtain ⟨o', e1⟩ := I.base.there b o e hx
    obtain ⟨sl, e2⟩ := any b o' (nch b o e) e1
    exact ⟨_, e2⟩
  · obtain ⟨m, ⟨o, es, ep, ho, r⟩, hl⟩ := I.loc
    obtain ⟨sl, hL⟩ := any _ o (fun z => (hch _ z).2.2.1 rfl) ho
    refine ⟨m, ⟨_, es, ep, hL, r⟩, fun i x v e1 e2 e3 => ?_⟩
    obtain ⟨u, r', l⟩ := hl i x v e1 e2 e3
    refine ⟨u, r', ?_⟩
    rcases l with l | ⟨k, c, e, z⟩
    · exact .inl l
    · exact .inr ⟨k, c, e, cellK x c e _ z⟩
  · obtain ⟨v, z⟩ := I.cell x c e
    exact ⟨v, cellK x c e v z⟩
  · obtain ⟨e, n, ne, nf, d⟩ := I.pin p hp
    refine ⟨keep p.1 p.2 (fun z => ?_) (fun z => (hch _ z).2.2.2.2 p hp rfl) e, n, ne, nf, d⟩
    rcases List.mem_cons.mp (I.stkSub _ z) with q | q
    · exact ne q
    · exact nf q
  · refine (I.hok b u e).stay (fun c v hc q => ?_) (fun _ q => q) fun _ _ q => q
    have hcu : ∃ y, H c = some y := by
      rcases hc with z | z
      · rw [z]; exact ⟨u, e⟩
      · exact ⟨_, z⟩
    obtain ⟨y, hy⟩ := hcu
    refine keep c v (fun z => ?_) (fun z => ?_) q
    · rw [I.stkFree c z] at hy; cases hy
    · rw [(hch c z).2.1] at hy; cases hy
/-- an exception at x, its newest station at T -/
noncomputable def Trc (h : Heap) (x T : Addr) (cls a0 : Value) : Prop :=
  ∃ oe vs oT ts, h.get? x = some oe ∧ (oe.cls = cls ∧ vs[0]? = some a0) ∧ oe.data = .fields vs ∧ vs[1]? = some (.ref T) ∧ T ≠ x ∧ h.get? T = some oT ∧ oT.data = .fields ts ∧ ts[3]? = some .none
theorem fly_of {x T : Addr} {cls a0 : Value} (I : Inv X pins σ H s) (t : Trc s.heap x T cls a0) : Heap.FlyingW (PySem.W.hideAll s.heap (frs X.stack ++ [x, T])) X.stack x cls a0 s.heap := by
  obtain ⟨oe, vs, oT, ts, a1, a2, a3, a4, a5, a6, a7, a8⟩ := t
  refine ⟨fun b o q => PySem.W.of_hideAll _ q, PySem.W.hideAll_none _ (by simp), PySem.W.funFrames_hide I.stack fun env he a ha => List.mem_append_left _ (List.mem_filterMap.mpr ⟨env, he, ha⟩), oe, vs, T, oT, ts, a1, a2, a3, a4, PySem.W.hideAll_none _ (by simp), a5, a6, a7, a8⟩
/-- how an exception of one's own lies behind a call -/
noncomputable def CXe (P : Program) (w : World) : CXT := fun outer H s E e s' => ∃ x C T H' a0, e = .ref x ∧ s'.os = s.os ∧ AllBare s'.gens ∧ Un (frs outer) [] H H' s.heap s'.heap ∧ HOk P w H' s'.heap ∧
  s.heap.get? x = none ∧ s.heap.get? T = none ∧ H' x = none ∧ H' T = none ∧ Trc s'.heap x T (.ref C) a0 ∧ E (.ref C) none H'
/-- behind noteFrame, leaving and their like: the state -/
theorem Inv.landed {x T : Addr} {h' : Heap} {t' : Nat} (I : Inv X pins σ H s) (n1 : X.s₀.heap.get? x = none) (n2 : X.s₀.heap.get? T = none) (u1 : H x = none) (u2 : H T = none)
    (g1 : ∀ p ∈ X.pn ++ pins, p.1 ≠ x) (g2 : ∀ p ∈ X.pn ++ pins, p.1 ≠ T) (c1 : ∀ y c, X.env.cells.lookup y = some c → c ≠ x) (c2 : ∀ y c, X.env.cells.lookup y = some c → c ≠ T) (l1 : x ≠ X.env.locals) (l2 : T ≠ X.env.locals)
    (st : (PySem.W.hideAll s.heap (frs X.stack ++ [x, T])).StaysIn h') (us : s.heap.UpToSlots h') : Inv X pins σ H { s with heap := h', toks := t' } := by
  refine I.flown (ch := [x, T]) (fun b hb => ?_) (fun b o hb hc e => st b o (PySem.W.hideAll_get _ e fun z => ?_)) (fun b o hb e => ?_)
  · rcases List.mem_cons.mp hb with q | q
    · subst q; exact ⟨n1, u1, l1, c1, g1⟩
    · rw [List.mem_singleton] at q
      subst q; exact ⟨n2, u2, l2, c2, g2⟩
  · rcases List.mem_append.mp z with q | q
    · exact hb q
    · exact hc q
  · obtain ⟨_, o', ho, hnf⟩ := I.stack.mem hb
    rw [e] at ho
    cases ho
    exact us b o e hnf
end
end L2
namespace L2
open PySem PySem.Spec PyProof.Rows
section
variable {X : Cx} {pins : List (Addr × Obj)} {σ : St} {H : Hp} {s : Shared}
theorem Inv.apart {x : Addr} (I : Inv X pins σ H s) (hex : X.ex = []) (n : s.heap.get? x = none) :
    X.s₀.heap.get? x = none ∧ (∀ p ∈ X.pn ++ pins, p.1 ≠ x) ∧ (∀ y c, X.env.cells.lookup y = some c → c ≠ x) ∧ x ≠ X.env.locals := by
  refine ⟨?_, fun p hp z => ?_, fun y c e z => ?_, fun z => ?_⟩
  · cases q : X.s₀.heap.get? x with
    | none => rfl
    | some o =>
      obtain ⟨o', e⟩ := I.base.there x o q (by rw [hex]; simp)
      rw [n] at e; cases e
  · have := (I.pin p hp).1
    rw [z, n] at this; cases this
  · obtain ⟨v, o, ho, _⟩ := I.cell y c e
    rw [z, n] at ho; cases ho
  · obtain ⟨m, ⟨o, es, ep, ho, _⟩, _⟩ := I.loc
    rw [← z, n] at ho; cases ho
/-- what is traced behind a station is new, too -/
theorem traced_new {B h' : Heap} {x : Addr} {cls a0 : Value} {as : List Addr} (I : Inv X pins σ H s) (hex : X.ex = []) (eB : B = PySem.W.hideAll s.heap (frs X.stack ++ as)) (has : ∀ b ∈ as, X.s₀.heap.get? b = none ∧ H b = none)
    (J : ∀ b ∈ frs X.stack, ∃ o, h'.get? b = some o ∧ ∀ vs, o.data ≠ .fields vs) (t : h'.TracedW B x cls a0) : ∃ T, Trc h' x T cls a0 ∧ X.s₀.heap.get? T = none ∧ H T = none := by
  obtain ⟨oe, vs, T, oT, ts, a1, a2, a3, a4, a5, a6, a7, a8, a9⟩ := t
  have hid : ∀ o, s.heap.get? T = some o → T ∈ as := fun o e => by
    by_cases hm : T ∈ frs X.stack ++ as
    · rcases List.mem_append.mp hm with q | q
      · obtain ⟨o', e', nf⟩ := J T q
        rw [a7] at e'; cases e'
        exact absurd a8 (nf ts)
      · exact q
    · rw [eB, PySem.W.hideAll_get _ e hm] at a5; cases a5
  refine ⟨T, ⟨oe, vs, oT, ts, a1, a2, a3, a4, a6, a7, a8, a9⟩, ?_, ?_⟩
  · cases q : X.s₀.heap.get? T with
    | none => rfl
    | some o =>
      obtain ⟨o', e⟩ := I.base.there T o q (by rw [hex]; simp)
      rw [(has T (hid o' e)).1] at q; cases q
  · cases q : H T with
    | none => rfl
    | some o =>
      obtain ⟨o', e⟩ := (I.hok T o q).there
      rw [(has T (hid o' e)).2] at q; cases q
end
section
variable {P : Program} {w : World} {K : PySem.W.Frag} {mg : Str → Option Value} {base : Heap} {N : List Str} {qual : Str} {scope : Scope} {f : Addr} {cd : Value} {A : Around} {outer : List Env} {s : Shared} {H : Hp} {E : XK}
  {pins : List (Addr × Obj)} {σ : St}
theorem xe_made {e C : Addr} {vs : List Value} {h' : Heap} {H1 : Hp} {s1 : Shared} (I : Inv (cxOf (CXe P w) P w K mg base N qual scope f cd A outer s H E) pins σ H1 s1) (hx : Heap.MadeExcOf s1.heap h' e (.ref C) vs) (ee : E (.ref C) none H1) :
    (cxOf (CXe P w) P w K mg base N qual scope f cd A outer s H E).xe (.ref e) { s1 with heap := h' } := by
  obtain ⟨p1, p2, p3, p4⟩ := I.apart rfl hx.new
  refine wpAny_leaves_madeW (base := PySem.W.hideAll s1.heap (frs (envOfC qual scope s.heap.objs.size f cd :: outer) ++ [])) (h := s1.heap) (outer := outer) I.ok.frames rfl (fun b o q => PySem.W.of_hideAll _ q)
    (PySem.W.funFrames_hide I.stack fun env he a ha => List.mem_append_left _ (List.mem_filterMap.mpr ⟨env, he, ha⟩)) hx fun h'' t fl _ _ us => ?_
  have J : Inv (cxOf (CXe P w) P w K mg base N qual scope f cd A outer s H E) pins σ H1 { s1 with heap := h'', toks := s1.toks } := I.flown (ch := []) (fun _ z => nomatch z)
    (fun b o hb _ e' => fl.1 b o (PySem.W.hideAll_get _ e' fun z => by
      rcases List.mem_append.mp z with q | q
      · exact hb q
      · exact absurd q (by simp))) (fun b o hb e' => by
    obtain ⟨_, o', ho, hnf⟩ := I.stack.mem hb
    rw [e'] at ho; cases ho
    exact us b o (hx.keeps b o e') hnf)
  obtain ⟨T', t', q1, q2⟩ := traced_new I rfl rfl (as := []) (fun _ z => nomatch z) (fun b hb => by obtain ⟨_, o, ho, nf⟩ := J.stack.mem hb; exact ⟨o, ho, nf⟩) fl.2.2.2
  exact ⟨e, C, T', H1, _, rfl, J.os, J.bare, J.base, J.hok, p1, q1, I.untr hx.new, q2, t', ee⟩
end
/-- a def that may raise, as its callers take it -/
structure DfE (P : Program) (w : World) (K : PySem.W.Frag) (mg : Str → Option Value) (base : Heap) (k : Nat) (x : Str) (ps : List Str) (sp : Sp) : Prop where
  ex : ∃ f fd, FnOk P w K mg base (CXe P w) k f fd ps sp ∧ Binds K fd ps [] ∧ mg x = some (.ref f) ∧ PySem.W.keepIn K (.ref f) = true
theorem Tx.dfE {P : Program} {w : World} {K : PySem.W.Frag} {mg : Str → Option Value} {base : Heap} {x : Str} {st : Stmt} {N ps : List Str} {k : Nat} {sp : Sp} (T : Tx K mg x st ps) (S : FnScope N ps (defScope st))
    (len : ∀ vs H Q E, sp vs H Q E → vs.length = ps.length)
    (hbody : ∀ (f : Addr) (cdv : Value) (A : Around) (outer : List Env) (s : Shared) (H : Hp) (vs : List V) (Q : VK) (E : XK), Room k (A.deeper (envOfC x (defScope st) s.heap.objs.size f cdv)) → sp vs H Q E →
      ∃ t, PSs (cxOf (CXe P w) P w K mg base N x (defScope st) f cdv A outer s H E) (defBody st) t ∧ t { nx := fun _ H' => Q .non H', rt := Q } (start N vs) H) : DfE P w K mg base (k + 1) x ps sp := by
  obtain ⟨f, fd, F, b, hm⟩ := T.ex
  obtain ⟨oc, od, kV, doc, pm, an, cdv, ct, osl, rfl, lk, hcd⟩ := id F.ex
  exact ⟨f, _, fn_of lk hcd S len fun A outer s H vs Q E hr h => hbody f cdv A outer s H vs Q E hr h, b, hm, F.kp⟩
end L2
namespace L2
open PySem PySem.Spec PyProof.Rows
abbrev vErr : List Value := [.type "ValueError", .type "Exception", .type "BaseException", .type "object"]
/-- an exception class of the text under ValueError, without an __init__ -/
structure ExcCl (K : PySem.W.Frag) (mg : Str → Option Value) (x : Str) (C : Addr) : Prop where
  mg : mg x = some (.ref C)
  ok : PySem.W.excIn K C vErr "ValueError.__new__" = true
theorem exc_of_in {K : PySem.W.Frag} {h : Heap} {C : Addr} (X : K.In h) (z : PySem.W.excIn K C vErr "ValueError.__new__" = true) :
    ∃ tl N nm qn bs hd sn sub ab col dd k0 k1 k2 k3 k5 mN, h.get? C = some (excClassObj nm qn C N bs tl hd sn sub ab col dd k0 k1 k2 k3 k5 "ValueError.__new__") ∧ h.Ns N mN ∧ mN "__init__" = none ∧ OwnTail h vErr tl ∧ ∀ b r, PySem.W.mroIn K C b = some r → (Value.ref C :: tl).contains b = r := by
  unfold PySem.W.excIn at z
  split at z
  case h_2 => cases z
  case h_1 dd cd sl ho =>
    split at z
    case h_2 => cases z
    case h_1 C' tl k0 k1 k2 k3 n k5 hm hs =>
      rw [Bool.and_eq_true, Bool.and_eq_true, Bool.and_eq_true, Bool.and_eq_true, Bool.and_eq_true, beq_iff_eq, beq_iff_eq, beq_iff_eq] at z
      obtain ⟨⟨⟨⟨⟨z1, z2⟩, z3⟩, z4⟩, z5⟩, z6⟩ := z
      subst z1
      subst z2
      have z3' : cd.hasDel = false := by simpa using z3
      obtain ⟨nm, bs, mro, ns, qn, hd, sn, sub, ab, col, del⟩ := cd
      dsimp only at hm z3' z5 z6
      subst hm
      subst z3'
      obtain rfl : sl = #[k0, k1, k2, k3, some (.builtin "ValueError.__new__"), k5] := by
        rw [← hs]
      exact ⟨tl, ns, nm, qn, bs, hd, sn, sub, ab, col, dd, k0, k1, k2, k3, k5, _, X _ _ ho, .of_isNs (PySem.W.isNs_of_in X z5), PySem.W.nsMap_none_of_in X z5 z6, PySem.W.tail_of_in X z4, fun b r hr => by
        unfold PySem.W.mroIn PySem.W.clsIn at hr
        rw [ho] at hr
        simpa using hr⟩
section
variable {X : Cx} {pins : List (Addr × Obj)} {σ : St} {H : Hp} {s : Shared}
/-- raise C(e) -/
noncomputable def tRz (t : TA) (W : Hp → Prop) : TS := fun _ σ H => t σ H fun vs H1 => vs.length ≤ sizeLine ∧ W H1
theorem ps_raise {c : Str} {C : Addr} {e : Expr} {es : List Expr} {t : TA} {np cpos pos : Pos} {W : Hp → Prop} (Z : ExcCl X.K X.mg c C) (hc : X.calm = true) (ha : PA X (e :: es) t)
    (hw : ∀ pins σ H1 s1 h' x vs, Inv X pins σ H1 s1 → Heap.MadeExcOf s1.heap h' x (.ref C) vs → W H1 → X.xe (.ref x) { s1 with heap := h' })
    (hg : Gl X c := by rfl) (hd : (c == ("__debug__" : Str)) = false := by decide) (he : starEach (e :: es) X.env = (false, eval e X.env) :: starEach es X.env := by rfl) (hpl : (backTo cpos (starEach es X.env)).any (·.1) = false := by rfl) :
    PS X (.Raise (some (.Call (.Name c np) (e :: es) [] cpos)) none pos) (tRz t W) := by
  intro pins s σ H D I h
  obtain ⟨tl, N, nm, qn, bs, hdt, sn, sub, ab, col, dd, k0, k1, k2, k3, k5, mN, hC, hN, hni, T, _⟩ := exc_of_in I.ok.mod.kin Z.ok
  refine wpAny_Raise_call_subT (C := C) (nm := nm) (q := qn) (N := N) (bs := bs) (bm := tl) (hdct := hdt) (sn := sn) (sub := sub) (ab := ab) (col := col) (dd := dd) (k0 := k0) (k1 := k1) (k2 := k2) (k3 := k3) (k5 := k5)
    PySem.F.excBase_ValueError (mN := mN) (T.hasType rfl) (I.ok.hd hc) (by rw [he]; show (false || (backTo cpos (starEach es X.env)).any (·.1)) = false; rw [hpl]; rfl) hni (ld_glob I hg Z.mg ⟨rfl, ?_⟩ hd)
  have ha' := ha cpos pins s σ H _ I h
  rw [he] at ha' ⊢
  refine Calls.evalArgs_plain (thn ha' fun us s1 ⟨vs, H1, I1, r1, hl, q⟩ => ⟨rfl, by rw [← r1.length]; exact hl, I1.bk _ _ hC, hN.keeps I1.bk, T.keeps I1.bk, fun h' x hx => ?_⟩)
  exact hw pins σ H1 s1 h' x us I1 hx q
/-- a def that may raise, called: what is wanted of an exception -/
theorem run_fnX {k : Nat} {f : Addr} {fd : FuncData} {ps : List Str} {sp : Sp} {E : XK} {EX : Value → Shared → Prop} {Q : VK} {us : List Value} {vs : List V} (F : FnOk X.prog X.w X.K X.mg X.base (CXe X.prog X.w) k f fd ps sp) (hr : Room k X.A) (hb : Binds X.K fd ps [])
    (I : Inv X pins σ H s) (r : Vals vs us) (h : sp vs H Q E) (hx : ∀ e s', CXe X.prog X.w X.stack H s E e s' → EX e s') : wpAny (model X.prog X.w) X.A (call (.ref f) us) (EP X pins σ Q) EX s := by
  have hl : (us ++ []).length = ps.length := by rw [List.append_nil, ← r.length]; exact F.len _ _ _ _ h
  have hb' := hb s us I.kIn hl
  rw [List.append_nil] at hb'
  refine wpAny_call (codeAny_mono (F.run X.A X.stack s H ⟨us, []⟩ us vs Q E hr I.env0 hb' r h) fun z s' hq => ?_)
  cases z with
  | error e => exact hx e s' hq
  | ok fl =>
    cases fl with
    | ret u => exact I.after hq
    | next => exact False.elim hq
    | brk => exact False.elim hq
    | cont => exact False.elim hq
/-- f(e, ..), f may raise; the exception passes on -/
noncomputable def tCE (sp : Sp) (E : XK) (t : TA) : TE := fun σ H Q => t σ H fun vs H1 => sp vs H1 Q E
end
end L2
namespace L2
open PySem PySem.Spec PyProof.Rows
/-- within an except suite -/
noncomputable abbrev Cx.marked (X : Cx) (x : Addr) : Cx := { X with A := X.A.mark (some (.ref x)), calm := false, xe := fun _ _ => False }
section
variable {X : Cx} {pins : List (Addr × Obj)} {σ : St} {H : Hp} {s : Shared} {x : Addr}
theorem Inv.marked (I : Inv X pins σ H s) (x : Addr) : Inv (X.marked x) pins σ H s :=
  ⟨⟨I.ok.mod, I.ok.kind, I.ok.glob, I.ok.blt, I.ok.above, I.ok.inj, I.ok.has, I.ok.cab, (fun z => by cases z), I.ok.frames, I.ok.stk, I.ok.exf, I.ok.bs, I.ok.bsz, I.ok.noex, I.ok.exfs, I.ok.funs, I.ok.frf⟩, I.os, I.bare, I.base, I.loc, I.cell, I.free, I.freeC, I.pin, I.hok, I.len⟩
theorem Inv.unmarked (ok : X.Ok) (I : Inv (X.marked x) pins σ H s) : Inv X pins σ H s := ⟨ok, I.os, I.bare, I.base, I.loc, I.cell, I.free, I.freeC, I.pin, I.hok, I.len⟩
theorem SP.unmarked {D : Ends} {f : Flow} {s' : Shared} (ok : X.Ok) (h : SP (X.marked x) pins D f s') : SP X pins D f s' := by
  cases f with
  | next => obtain ⟨σ', H', I, q⟩ := h; exact ⟨σ', H', I.unmarked ok, q⟩
  | brk => obtain ⟨σ', H', I, q⟩ := h; exact ⟨σ', H', I.unmarked ok, q⟩
  | cont => obtain ⟨σ', H', I, q⟩ := h; exact ⟨σ', H', I.unmarked ok, q⟩
  | ret u => obtain ⟨v, σ', H', I, r, q⟩ := h; exact ⟨v, σ', H', I.unmarked ok, r, q⟩
end
theorem excMatches_own {M : Model} {A : Around} {E : Value → Shared → Prop} {nm nm' q q' : Str} {C C' N N' : Addr} {bs bs' tl tl' : List Value} {hd hd' : Bool} {sn sn' : List Str} {sub sub' : List Value} {ab ab' : Bool} {col col' : Option Bool} {dd dd' : Option Addr}
    {k0 k1 k2 k3 k5 j0 j1 j2 j3 j5 : Option Value} {i i' : String} {s : Shared} {x : Addr} {oe : Obj} {Q : Bool → Shared → Prop} {r : Bool}
    (hC : s.heap.get? C = some (excClassObj nm q C N bs tl hd sn sub ab col dd k0 k1 k2 k3 k5 i)) (hC' : s.heap.get? C' = some (excClassObj nm' q' C' N' bs' tl' hd' sn' sub' ab' col' dd' j0 j1 j2 j3 j5 i')) (he : s.heap.get? x = some oe) (hcls : oe.cls = .ref C)
    (hb : tl'.contains (.type "BaseException") = true) (hr : (Value.ref C :: tl).contains (.ref C') = r) (hq : Q r s) : wpAny M A (excMatches (.ref x) (.ref C')) Q E s := by
  obtain ⟨h, g, d, t, os⟩ := s
  have hcB : (Value.ref C' :: tl').contains (.type "BaseException") = true := by rw [List.contains_cons, hb, Bool.or_true]
  have f := tc_notTuple
  unfold excMatches
  repeat (first | (with_reducible refine wpAny_loadPart_at he ?_; rw [hcls]) | with_reducible refine wpAny_loadPart_at hC' ?_ | (with_reducible refine wpAny_isSubtype_exc hC' ?_; rw [hcB]) | (with_reducible refine wpAny_isSubtype_exc hC ?_; rw [hr]) | wp_step)
  cases r <;> (wp_walk; exact hq)
end L2
namespace L2
open PySem PySem.Spec PyProof.Rows
section
variable {X : Cx} {pins : List (Addr × Obj)} {σ : St}
/-- what a clause wants of an exception of the class at C -/
structure Hit (K : PySem.W.Frag) (mg : Str → Option Value) (c : Str) (C : Addr) : Prop where
  ok : PySem.W.excIn K C vErr "ValueError.__new__" = true
  ex : ∃ C', ExcCl K mg c C' ∧ PySem.W.mroIn K C (.ref C') = some true
theorem handle_bare {x T C L : Addr} {a0 : Value} {H2 H' : Hp} {s2 s' : Shared} {c : Str} {cp hp : Pos} {b0 : Stmt} {suite : List Stmt} {th : TS} {D : Ends} (hst : X.stack = X.env :: X.outer) (hf : X.env.frame = some L) (hex : X.ex = [])
    (I2 : Inv X pins σ H2 s2) (n1 : s2.heap.get? x = none) (n2 : s2.heap.get? T = none) (I : Inv X pins σ H' s') (t : Trc s'.heap x T (.ref C) a0) (u1 : H' x = none) (u2 : H' T = none)
    (Z : Hit X.K X.mg c C) (hs : ∀ y, PSs (X.marked y) (b0 :: suite) th) (q : th D σ H') (hg : Gl X c) (hdb : (c == ("__debug__" : Str)) = false) {E : Value → Shared → Prop} :
    wpAny (model X.prog X.w) X.A (noteFrame (.ref x) X.env) (fun _ s3 => wpAny (model X.prog X.w) X.A (setFlight (.ref x) none) (fun _ s4 =>
      wpAny (model X.prog X.w) X.A (handleBy (.ref x) X.env [.ExceptHandler (some (.Name c cp)) none (b0 :: suite) hp]) (SP X pins D) E s4) E s3) E s' := by
  obtain ⟨p1, p2, p3, p4⟩ := I2.apart hex n1
  obtain ⟨r1, r2, r3, r4⟩ := I2.apart hex n2
  obtain ⟨C', Zc, hm⟩ := Z.ex
  have fl := fly_of I t
  rw [hst] at fl
  refine wpAny_looks_onW (outer := X.outer) (by rw [I.ok.frames, hst]) hf fl fun h4 held us4 => ?_
  refine wpAny_landsW held fun h5 fl5 us5 => ?_
  have J := I.landed (t' := s'.toks) p1 r1 u1 u2 p2 r2 p3 r3 p4 r4 (hst ▸ fl5.1) (us4.trans us5)
  obtain ⟨oe, he, hcl⟩ := fl5.there
  obtain ⟨tl, N, nm, qn, bs, hd, sn, sub, ab, col, dd, k0, k1, k2, k3, k5, mN, hC, _, _, _, hmr⟩ := exc_of_in J.kIn Z.ok
  obtain ⟨tl', N', nm', qn', bs', hd', sn', sub', ab', col', dd', j0, j1, j2, j3, j5, mN', hC', _, _, T', _⟩ := exc_of_in J.kIn Zc.ok
  refine wpAny_handleBy_cons (codeAny_handlers_test (ld_glob (X := X.marked x) (J.marked x) hg Zc.mg ?_ hdb)) (by intro z; cases z)
  refine excMatches_own hC hC' he hcl (T'.hasType rfl) (hmr _ _ hm) ?_
  refine codeAny_handlers_suite ?_
  refine lands_againW fl5 fun h6 fl6 us6 => ?_
  have J6 := I.landed (t' := s'.toks) p1 r1 u1 u2 p2 r2 p3 r3 p4 r4 (hst ▸ fl6.1) ((us4.trans us5).trans us6)
  exact wpAny_mono (hs x pins _ σ H' D (J6.marked x) q) (fun f s9 hq => hq.unmarked I.ok) (fun _ _ z => False.elim z)
/-- try: y = f(..) / except c: suite -/
noncomputable def tTryA (K : PySem.W.Frag) (mg : Str → Option Value) (sp : Sp) (t : TA) (i : Nat) (c : Str) (th : TS) : TS := fun D σ H => t σ H fun vs H1 => sp vs H1 (fun v H2 => gName i v σ H2 D.nx) fun cls _ H2 => ∃ C, cls = .ref C ∧ Hit K mg c C ∧ th D σ H2
theorem ps_tryA {j k i L : Nat} {y fx c : Str} {ps : List Str} {sp : Sp} {e : Expr} {es : List Expr} {t : TA} {py fp cpos apos cp hp pos : Pos} {b0 : Stmt} {suite : List Stmt} {th : TS} (hN : X.N.Nodup) (hi : X.N[i]? = some y) (hy : Loc X.env.scope y)
    (D : DfE X.prog X.w X.K X.mg X.base j fx ps sp) (hr : Room k X.A) (ha : PA X (e :: es) t) (hs : ∀ z, PSs (X.marked z) (b0 :: suite) th)
    (hst : X.stack = X.env :: X.outer := by rfl) (hf : X.env.frame = some L := by rfl) (hex : X.ex = [] := by rfl) (hxe : X.xe = (fun _ _ => False) := by rfl) (hg : Gl X fx := by rfl) (hgc : Gl X c := by rfl) (hj : j ≤ k := by decide)
    (hdb : (fx == ("__debug__" : Str)) = false := by decide) (hdc : (c == ("__debug__" : Str)) = false := by decide) (he : starEach (e :: es) X.env = (false, eval e X.env) :: starEach es X.env := by rfl) (hpl : (backTo cpos (starEach es X.env)).any (·.1) = false := by rfl)
    (hsw : swapsWith (.Call (.Name fx fp) (e :: es) [] cpos) (some (.Name y py)) apos.line X.env = pure false := by rfl) (hfn : X.fn y = true ∨ X.env.scope.names.lookup y = some .local := by first | exact .inl rfl | exact .inr rfl | assumption) :
    PS X (.Try [.Assign [.Name y py] (.Call (.Name fx fp) (e :: es) [] cpos) apos] [.ExceptHandler (some (.Name c cp)) none (b0 :: suite) hp] [] [] pos) (tTryA X.K X.mg sp t i c th) := by
  intro pins s σ H DD I h
  obtain ⟨f, fd, F, b, hm, kp⟩ := D.ex
  refine wpAny_Try_except (wpAny_execs_cons (wpAny_Assign_Name (wpAny_Call_Name_kw (ld_glob I hg hm ?_ hdb)) hsw))
  refine PySem.W.callWith_K (h₀ := X.base) I.ok.mod.kin kp (wpAny_mono (ha cpos pins s σ H _ I h) (fun us s1 ⟨vs, H1, I1, r, q⟩ => ⟨I1.kIn, ?_⟩) fun _ _ z => by rw [hxe] at z; exact False.elim z) he hpl
  refine wpAny_mono (run_fnX F (hr.mono hj) b I1 r q (EX := fun e s' => CXe X.prog X.w X.stack H1 s1 (fun cls _ H2 => ∃ C, cls = .ref C ∧ Hit X.K X.mg c C ∧ th DD σ H2) e s') fun _ _ z => z) (fun v s2 ⟨w', H2, I2, rw', q2⟩ => ?_) fun e' s2 hx => ?_
  · refine store_ok I2 hN hi hy rw' (fun s3 I3 => ?_) hfn
    exact wpAny_execs_nil (wpAny_execs_nil ⟨_, H2, I3, q2⟩)
  · obtain ⟨x, C, T, H2, a0, rfl, os, bare, un, hok, n1, n2, u1, u2, tr, C2, ec, Z, q2⟩ := hx
    cases ec
    exact handle_bare hst hf hex I1 n1 n2 (I1.call' (ch := []) os un hok bare (fun _ z => nomatch z)) tr u1 u2 Z hs q2 hgc hdc
end
end L2
namespace L2
open PySem PySem.Spec PyProof.Rows
/-- the facts of an exception class by which isinstance of its instances is told -/
structure ExcA (K : PySem.W.Frag) (C : Addr) : Prop where
  ga : PySem.W.findIn K (.ref C) "__getattribute__" = some (some (.builtin "BaseException.__getattribute__"))
  gt : PySem.W.findIn K (.ref C) "__getattr__" = some none
  cl : PySem.W.findIn K (.ref C) "__class__" = some (some (.builtin "object.__class__"))
  be : PySem.W.mroIn K C (.type "BaseException") = some true
  ob : PySem.W.mroIn K C (.type "object") = some true
section
variable {prog : Program} {w : World} {A : Around} {E : Value → Shared → Prop} {h : Heap} {g : Array GenState} {d : Drawn} {t : Nat} {os : OsState} {K : PySem.W.Frag} {a C : Addr} {o : Obj}
theorem xcls_get {R : Result → Shared → Prop} (X : K.In h) (Z : ExcA K C) (hx : h.get? a = some o) (hc : o.cls = .ref C) (hq : R (.ok (.ret (.ref C))) ⟨h, g, d, t, os⟩) :
    codeAny (model prog w) A (.call (.builtin "getset_descriptor.__get__") ⟨[.builtin "object.__class__", .ref a, .ref C], []⟩) R ⟨h, g, d, t, os⟩ := by
  have z5 : (⟨h, g, d, t, os⟩ : Shared).TypeIs (.builtin "object.__class__") "getset_descriptor" := PySem.F.typeOf_object_class
  have S2 : PySem.W.Looks (model prog w) h (isSubtype (.ref C) (.type (".".intercalate ("object.__class__".cutAt '.').dropLast))) true := by
    rw [PySem.F.owner_object_class]
    exact PySem.W.looks_mroIn X Z.ob
  refine codeAny_call_builtin PySem.F.slot_gs_get.plain PySem.F.entry_gs_get (PySem.F.slot_gs_get.check _ _ _ _ _ _ _ _ z5 (PySem.F.args_gs_get _ _ _) ?_)
  repeat (any_goals (first | assumption | (with_reducible refine wpAny_loadPart_at hx ?_; rw [hc]) | with_reducible refine S2.at ?_ | wp_step))
  refine ⟨Code.quiet_builtin _ (by decide +kernel), codeAny_builtin PySem.F.entry_object_class ?_⟩
  repeat (any_goals (first | assumption | (with_reducible refine wpAny_loadPart_at hx ?_; rw [hc]) | wp_step))
theorem xcls_entry {tk : Tok} {Q : PySem.Fin → Shared → Prop} (X : K.In h) (Z : ExcA K C) (hx : h.get? a = some o) (hc : o.cls = .ref C) (hq : Q (.done (.ret (.ref C))) ⟨h, g, d, t, os⟩) :
    wpAny (model prog w) A (Builtin.«object.__getattribute__» ⟨[.ref a, .str "__class__" tk], []⟩) Q E ⟨h, g, d, t, os⟩ := by
  have z5 : (⟨h, g, d, t, os⟩ : Shared).TypeIs (.builtin "object.__class__") "getset_descriptor" := PySem.F.typeOf_object_class
  have L3 := PySem.W.looks_findIn (M := model prog w) X Z.cl
  have f5 := PySem.F.typeOf_object_class
  have f6 := PySem.F.slot_gs_get.lookup
  have f7 := PySem.F.slot_gs_set.lookup
  repeat (any_goals (first | assumption | (with_reducible refine wpAny_loadPart_at hx ?_; rw [hc]) | with_reducible refine L3.at ?_ | wp_step))
  refine xcls_get X Z hx hc ?_
  repeat (any_goals (first | assumption | wp_step))
theorem xcls_check {M : Model} {v : Value} {Q : Unit → Shared → Prop} (X : K.In h) (Z : ExcA K C) (hx : h.get? a = some o) (hc : o.cls = .ref C) (hq : Q () ⟨h, g, d, t, os⟩) : wpAny M A (checkBuiltinCall "BaseException.__getattribute__" ⟨[.ref a, v], []⟩) Q E ⟨h, g, d, t, os⟩ := by
  have k1 : builtinKind "BaseException.__getattribute__" = some .slot := by decide +kernel
  have k2 : splitId "BaseException.__getattribute__" = some ("BaseException", "__getattribute__") := by decide +kernel
  have S1 := PySem.W.looks_mroIn (M := M) X Z.be
  have k3 := PySem.F.args_bexc_ga (.ref a) v
  simp only [checkBuiltinCall, k1, k2]
  refine wpAny_bind ?_
  unfold isInstance
  repeat (first | (with_reducible refine wpAny_loadPart_at hx ?_; rw [hc]) | with_reducible refine S1.at ?_ | wp_step)
  exact hq
theorem xcls_attr {Q : Option Value → Shared → Prop} (X : K.In h) (Z : ExcA K C) (hx : h.get? a = some o) (hc : o.cls = .ref C) (hq : Q (some (.ref C)) ⟨h, g, d, t + 1, os⟩) : wpAny (model prog w) A (getAttr? (.ref a) "__class__") Q E ⟨h, g, d, t, os⟩ := by
  have L1 := PySem.W.looks_findIn (M := model prog w) X Z.ga
  have L2 := PySem.W.looks_findIn (M := model prog w) X Z.gt
  have y0 : (false && onTheHeap (Value.builtin "BaseException.__getattribute__")) = false := rfl
  have y2 : (Value.builtin "BaseException.__getattribute__" == Value.builtin "object.__getattribute__") = false := by decide +kernel
  have y1 : (onTheHeap (Value.ref C) && Value.builtin "BaseException.__getattribute__" == Value.builtin "object.__getattribute__") = false := by rw [y2]; rfl
  have f5 := PySem.F.attrBase_ValueError.ga.bind (.ref a)
  unfold getAttr? getAttrBy?
  repeat (any_goals (first | assumption | (with_reducible refine wpAny_loadPart_at hx ?_; rw [hc]) | with_reducible refine L1.at ?_ | with_reducible refine L2.at ?_ | wp_step))
  refine codeAny_call_builtin PySem.F.attrBase_ValueError.ga.plain PySem.F.entry_bexc_ga (xcls_check X Z hx hc (xcls_entry X Z hx hc ?_))
  repeat (any_goals (first | assumption | wp_step))
end
/-- an exception, by its class -/
noncomputable def ExO (x C : Addr) : HO := .ext fun h => ∃ o, h.get? x = some o ∧ o.cls = .ref C
theorem kitx_exc {K : PySem.W.Frag} {x C : Addr} (Z : ExcA K C) : PySem.W.KitX K (.ref x) (.ref C) (fun h => ∃ o, h.get? x = some o ∧ o.cls = .ref C) where
  ty := fun _ _ _ ⟨o, e, c⟩ => c ▸ (PySem.W.Looks.ld e).andThen .now
  it := fun _ _ X _ => by
    have q := Z.ob
    unfold PySem.W.mroIn at q
    obtain ⟨cd, hc, _⟩ := Option.bind_eq_some_iff.mp q
    unfold PySem.W.clsIn at hc
    split at hc
    case h_2 => cases hc
    case h_1 ho =>
      intro A' Q' E' s' k q'
      unfold isType loadHead
      exact wpAny_bind (wpAny_loadPart (k _ _ (X _ _ ho)) (wpAny_pure q'))
  ne := fun h tp dd its n sl X htp => by
    have q := Z.ob
    unfold PySem.W.mroIn at q
    obtain ⟨cd, hc, _⟩ := Option.bind_eq_some_iff.mp q
    refine Bool.eq_false_iff.mpr fun z => ?_
    obtain rfl : C = tp := Value.ref.inj (beq_iff_eq.mp z)
    unfold PySem.W.clsIn at hc
    split at hc
    case h_2 => cases hc
    case h_1 ho =>
      have y := (X _ _ ho).symm.trans htp
      cases y
  ca := fun {_ _ _ _ _ s} X ⟨o, e, c⟩ k => by
    obtain ⟨h, g, d, t, os⟩ := s
    exact xcls_attr X Z e c k
section
variable {X : Cx}
/-- isinstance(e, c) of an exception -/
noncomputable def rIsx (K : PySem.W.Frag) : List V → Hp → VK → Prop := fun xs H Q => ∃ x C c cv b, xs = [.ref x, c] ∧ H x = some (ExO x C) ∧ ExcA K C ∧ RelV c cv ∧ (∀ u, RelV c u → u = cv) ∧ PySem.W.kitOne K (.ref C) cv = some b ∧ Q (.bl b) H
theorem call_isx : CallR X (.builtin "isinstance") (rIsx X.K) := by
  intro pins s σ H xs us Q I rs h
  obtain ⟨x, C, c, cv, b, rfl, hx, Z, rc, uc, e, q⟩ := h
  obtain ⟨u1, u2, rfl, r1, r2⟩ := vals2 rs
  cases r1
  obtain rfl := uc u2 r2
  have p : ∃ o, s.heap.get? x = some o ∧ o.cls = .ref C := (I.hok x _ hx).1
  exact PySem.W.kia_one (kitx_exc Z) I.kIn p e (fun z => nomatch z) fun tk => ⟨.bl b, H, I.tok _, rfl, q⟩
end
end L2
namespace L2
open PySem PySem.Spec PyProof.Rows
section
variable {X : Cx} {pins : List (Addr × Obj)} {σ : St} {H : Hp} {s : Shared}
/-- an exception that lies untracked is tracked by its class -/
theorem Inv.trackX {x C : Addr} {o : Obj} (I : Inv X pins σ H s) (n1 : X.s₀.heap.get? x = none) (u1 : H x = none) (p2 : ∀ p ∈ X.pn ++ pins, p.1 ≠ x) (p3 : ∀ y c, X.env.cells.lookup y = some c → c ≠ x) (p4 : x ≠ X.env.locals)
    (e : s.heap.get? x = some o) (hc : o.cls = .ref C) : Inv X pins σ (upd H x (ExO x C)) s := by
  have nx : ∀ b u, H b = some u → b ≠ x := fun b u e z => by rw [z, u1] at e; cases e
  refine ⟨I.ok, I.os, I.bare, ⟨I.base.keep, I.base.slot, fun b o' e1 n hx => ?_, I.base.there, fun b xs e1 => ?_, fun b o' u e1 => ?_, fun b ps e1 => ?_⟩, I.loc, I.cell, ?_, fun y c e1 => ?_, fun p hp => ?_, fun b u e1 => ?_, I.len⟩
  · rw [upd_ne (fun z => by rw [z, n1] at e1; cases e1)]
    exact I.base.free b o' e1 n hx
  · have q := I.base.tups b xs e1
    rw [upd_ne (nx b _ q)]; exact q
  · have q := I.base.frzs b o' u e1
    rw [upd_ne (nx b _ q)]; exact q
  · obtain ⟨more, q⟩ := I.base.tbls b ps e1
    exact ⟨more, by rw [upd_ne (nx b _ q)]; exact q⟩
  · rw [upd_ne (Ne.symm p4)]; exact I.free
  · rw [upd_ne (p3 y c e1)]; exact I.freeC y c e1
  · obtain ⟨a1, a2, a3⟩ := I.pin p hp
    exact ⟨a1, by rw [upd_ne (p2 p hp)]; exact a2, a3⟩
  · by_cases hb : b = x
    · subst hb
      rw [upd_same] at e1
      cases e1
      exact ⟨⟨o, e, hc⟩, ⟨o, e⟩, fun h1 h2 ⟨o1, e1, c1⟩ k => ⟨o1, k o1 e1, c1⟩⟩
    · rw [upd_ne hb] at e1
      refine (I.hok b u e1).stay (fun _ _ _ q => q) (fun c q => ?_) fun c xs q => ?_
      · rw [upd_ne (nx c _ q)]; exact q
      · rw [upd_ne (nx c _ q)]; exact q
/-- a local name has gone (or its value is not known any more) -/
theorem Inv.nameGone {h' : Heap} {n : Str} {i : Nat} {v : Option Value} {m : Str → Option Value} {t' : Nat} (I : Inv X pins σ H s) (hN : X.N.Nodup) (hi : X.N[i]? = some n)
    (hm : ∀ (i : Nat) (x : Str) (v : V), X.N[i]? = some x → σ[i]? = some (some v) → Vis X.env.scope x → ∃ u, RelV v u ∧ Look X.env s.heap m x u)
    (hn : h'.Ns X.env.locals fun x => if x = n then v else m x) (sb : Heap.SameBut X.env.locals s.heap h') : Inv X pins (σ.set i none) H { s with heap := h', toks := t' } := by
  have k : ∀ b o, b ≠ X.env.locals → s.heap.get? b = some o → h'.get? b = some o := fun b o hb e => (sb.2 b hb).trans e
  have nl : ∀ b o, X.s₀.heap.get? b = some o → b ≠ X.env.locals := fun b o e z => by
    rw [z] at e
    exact absurd (Nat.lt_of_lt_of_le (Heap.lt_size e) I.ok.above) (Nat.lt_irrefl _)
  have cellK : ∀ x c, X.env.cells.lookup x = some c → ∀ v, s.heap.IsCell c v → h'.IsCell c v := fun x c e v ⟨o, ho, hd⟩ => ⟨o, k c o (I.cne x c e) ho, hd⟩
  refine ⟨I.ok, I.os, I.bare, ⟨fun b o e n' hb hx => ?_, fun b o e n' hb hx => ?_, I.base.free, fun b o e hx => ?_, I.base.tups, I.base.frzs, I.base.tbls⟩, ⟨_, hn, fun j x v' e1 e2 e3 => ?_⟩, fun x c e => ?_, I.free, I.freeC, fun p hp => ?_, fun b u e => ?_, ?_⟩
  · exact k b o (nl b o e) (I.base.keep b o e n' hb hx)
  · obtain ⟨sl, q⟩ := I.base.slot b o e n' hb hx
    exact ⟨sl, k b _ (nl b o e) q⟩
  · obtain ⟨o', q⟩ := I.base.there b o e hx
    exact ⟨o', k b o' (nl b o e) q⟩
  · have hji : j ≠ i := fun z => by
      subst z
      rw [List.getElem?_set_self (by
        rw [I.len]
        exact (List.getElem?_eq_some_iff.mp e1).1)] at e2
      cases e2
    rw [List.getElem?_set_ne (Ne.symm hji)] at e2
    obtain ⟨u, r, l⟩ := hm j x v' e1 e2 e3
    have hxn : x ≠ n := fun z => hji (nodup_ix hN e1 (by rw [z]; exact hi))
    refine ⟨u, r, ?_⟩
    rcases l with ⟨q1, q2⟩ | ⟨q, c, e, z⟩
    · exact .inl ⟨q1, by show (if x = n then v else m x) = some u; rw [if_neg hxn]; exact q2⟩
    · exact .inr ⟨q, c, e, cellK x c e _ z⟩
  · obtain ⟨v', z⟩ := I.cell x c e
    exact ⟨v', cellK x c e v' z⟩
  · obtain ⟨e, a2, ne, a3⟩ := I.pin p hp
    exact ⟨k p.1 p.2 ne e, a2, ne, a3⟩
  · refine (I.hok b u e).stay (fun c v' hc q => k c v' (fun z => ?_) q) (fun _ q => q) fun _ _ q => q
    subst z
    rcases hc with z | z
    · rw [← z, I.free] at e; cases e
    · rw [I.free] at z; cases z
  · rw [List.length_set]; exact I.len
/-- the ends of a suite behind which the slot i is gone -/
noncomputable def Ends.gone (D : Ends) (i : Nat) : Ends := { D with nx := fun σ H => D.nx (σ.set i none) H, bk := fun σ H => D.bk (σ.set i none) H, ct := fun σ H => D.ct (σ.set i none) H }
theorem gone_ok {D : Ends} {f : Flow} {i : Nat} {n : Str} {pos : Pos} {E : Value → Shared → Prop} (hN : X.N.Nodup) (hi : X.N[i]? = some n) (hl : X.env.kindOf n = some .local) (hk : X.env.scope.kind = .function) (h : SP X pins (D.gone i) f s) :
    wpAny (model X.prog X.w) X.A (do bindName X.env n .none; unbindBehindTheSuite X.env n pos) (fun _ s' => SP X pins D f s') E s := by
  have go : ∀ {σ' : St} {H' : Hp} {R : Shared → Prop}, Inv X pins σ' H' s → (∀ s', Inv X pins (σ'.set i none) H' s' → R s') → wpAny (model X.prog X.w) X.A (do bindName X.env n .none; unbindBehindTheSuite X.env n pos) (fun _ s' => R s') E s := fun {σ' H' R} J q => by
    obtain ⟨m, hn, hm⟩ := id J.loc
    refine wpAny_nameGoes_keeps hl hn (by rw [hk]; rfl) fun h' v hn' sb => q _ (J.nameGone hN hi hm hn' sb)
  cases f with
  | next => obtain ⟨σ', H', J, q⟩ := h; exact go J fun s' J' => ⟨_, H', J', q⟩
  | brk => obtain ⟨σ', H', J, q⟩ := h; exact go J fun s' J' => ⟨_, H', J', q⟩
  | cont => obtain ⟨σ', H', J, q⟩ := h; exact go J fun s' J' => ⟨_, H', J', q⟩
  | ret u => obtain ⟨v, σ', H', J, r, q⟩ := h; exact go J fun s' J' => ⟨v, _, H', J', r, q⟩
end
end L2
namespace L2
open PySem PySem.Spec PyProof.Rows
section
variable {X : Cx} {pins : List (Addr × Obj)} {σ : St}
theorem handle_as {x T C L : Addr} {a0 : Value} {H2 H' : Hp} {s2 s' : Shared} {c n : Str} {i : Nat} {cp hp : Pos} {b0 : Stmt} {suite : List Stmt} {th : TS} {D : Ends} (hst : X.stack = X.env :: X.outer) (hf : X.env.frame = some L) (hex : X.ex = [])
    (hN : X.N.Nodup) (hi : X.N[i]? = some n) (hl : X.env.kindOf n = some .local)
    (I2 : Inv X pins σ H2 s2) (n1 : s2.heap.get? x = none) (n2 : s2.heap.get? T = none) (I : Inv X pins σ H' s') (t : Trc s'.heap x T (.ref C) a0) (u1 : H' x = none) (u2 : H' T = none)
    (Z : Hit X.K X.mg c C) (hs : ∀ y, PSs (X.marked y) (b0 :: suite) th) (q : th (D.gone i) (σ.set i (some (.ref x))) (upd H' x (ExO x C))) (hg : Gl X c) (hdb : (c == ("__debug__" : Str)) = false) {E : Value → Shared → Prop} :
    wpAny (model X.prog X.w) X.A (noteFrame (.ref x) X.env) (fun _ s3 => wpAny (model X.prog X.w) X.A (setFlight (.ref x) none) (fun _ s4 =>
      wpAny (model X.prog X.w) X.A (handleBy (.ref x) X.env [.ExceptHandler (some (.Name c cp)) (some n) (b0 :: suite) hp]) (SP X pins D) E s4) E s3) E s' := by
  obtain ⟨p1, p2, p3, p4⟩ := I2.apart hex n1
  obtain ⟨r1, r2, r3, r4⟩ := I2.apart hex n2
  obtain ⟨C', Zc, hm⟩ := Z.ex
  have fl := fly_of I t
  rw [hst] at fl
  refine wpAny_looks_onW (outer := X.outer) (by rw [I.ok.frames, hst]) hf fl fun h4 held us4 => ?_
  refine wpAny_landsW held fun h5 fl5 us5 => ?_
  have J := I.landed (t' := s'.toks) p1 r1 u1 u2 p2 r2 p3 r3 p4 r4 (hst ▸ fl5.1) (us4.trans us5)
  obtain ⟨oe, he, hcl⟩ := fl5.there
  obtain ⟨tl, N, nm, qn, bs, hd, sn, sub, ab, col, dd, k0, k1, k2, k3, k5, mN, hC, _, _, _, hmr⟩ := exc_of_in J.kIn Z.ok
  obtain ⟨tl', N', nm', qn', bs', hd', sn', sub', ab', col', dd', j0, j1, j2, j3, j5, mN', hC', _, _, T', _⟩ := exc_of_in J.kIn Zc.ok
  refine wpAny_handleBy_cons (codeAny_handlers_test (ld_glob (X := X.marked x) (J.marked x) hg Zc.mg ?_ hdb)) (by intro z; cases z)
  refine excMatches_own hC hC' he hcl (T'.hasType rfl) (hmr _ _ hm) ?_
  refine codeAny_handlers_suite_as ?_
  refine lands_againW fl5 fun h6 fl6 us6 => ?_
  have J6 := I.landed (t' := s'.toks) p1 r1 u1 u2 p2 r2 p3 r3 p4 r4 (hst ▸ fl6.1) ((us4.trans us5).trans us6)
  obtain ⟨oe6, he6, hcl6⟩ := fl6.there
  have J7 := J6.trackX p1 u1 p2 p3 p4 he6 hcl6
  refine store_ok (v := .ref x) J7 hN hi (.inl hl) rfl (fun s8 J8 => ?_) (.inr hl)
  refine wpAny_mono (hs x pins _ _ _ (D.gone i) (J8.marked x) q) (fun f s9 hq => ?_) (fun _ _ z => False.elim z)
  exact gone_ok hN hi hl I.ok.kind (hq.unmarked I.ok)
/-- the call in a try, whatever comes of it -/
theorem try_call {j k : Nat} {fx : Str} {ps : List Str} {sp : Sp} {e : Expr} {es : List Expr} {t : TA} {fp cpos : Pos} {H : Hp} {s : Shared} {QQ : St → VK} {EE : Hp → XK} (D : DfE X.prog X.w X.K X.mg X.base j fx ps sp) (hr : Room k X.A) (ha : PA X (e :: es) t)
    (hxe : X.xe = fun _ _ => False) (hg : Gl X fx) (hj : j ≤ k) (hdb : (fx == ("__debug__" : Str)) = false) (he : starEach (e :: es) X.env = (false, eval e X.env) :: starEach es X.env) (hpl : (backTo cpos (starEach es X.env)).any (·.1) = false)
    (I : Inv X pins σ H s) (h : t σ H fun vs H1 => sp vs H1 (QQ σ) (EE H1)) {R : Value → Shared → Prop} {EX : Value → Shared → Prop} (hR : ∀ v s', EP X pins σ (QQ σ) v s' → R v s')
    (hX : ∀ H1 s1, Inv X pins σ H1 s1 → ∀ e' s', CXe X.prog X.w X.stack H1 s1 (EE H1) e' s' → EX e' s') :
    wpAny (model X.prog X.w) X.A (eval (.Call (.Name fx fp) (e :: es) [] cpos) X.env) R EX s := by
  obtain ⟨f, fd, F, b, hm, kp⟩ := D.ex
  refine wpAny_Call_Name_kw (ld_glob I hg hm ?_ hdb)
  refine PySem.W.callWith_K (h₀ := X.base) I.ok.mod.kin kp (wpAny_mono (ha cpos pins s σ H _ I h) (fun us s1 ⟨vs, H1, I1, r, q⟩ => ⟨I1.kIn, ?_⟩) fun _ _ z => by rw [hxe] at z; exact False.elim z) he hpl
  exact wpAny_mono (run_fnX F (hr.mono hj) b I1 r q (EX := EX) fun e' s' z => hX H1 s1 I1 e' s' z) (fun v s2 z => hR v s2 z) fun _ _ z => z
/-- try: f(..) / except c as n: suite -/
noncomputable def tTryEs (K : PySem.W.Frag) (mg : Str → Option Value) (sp : Sp) (t : TA) (c : Str) (n : Nat) (th : TS) : TS := fun D σ H => t σ H fun vs H1 => sp vs H1 (fun _ H2 => D.nx σ H2) fun cls _ H2 => ∃ C, cls = .ref C ∧ Hit K mg c C ∧ ∀ x, H2 x = none → th (D.gone n) (σ.set n (some (.ref x))) (upd H2 x (ExO x C))
theorem ps_tryEs {j k m L : Nat} {fx c nx : Str} {ps : List Str} {sp : Sp} {e : Expr} {es : List Expr} {t : TA} {fp cpos apos cp hp pos : Pos} {b0 : Stmt} {suite : List Stmt} {th : TS} (hN : X.N.Nodup)
    (hn : X.N[m]? = some nx) (hl : X.env.kindOf nx = some .local)
    (D : DfE X.prog X.w X.K X.mg X.base j fx ps sp) (hr : Room k X.A) (ha : PA X (e :: es) t) (hs : ∀ z, PSs (X.marked z) (b0 :: suite) th)
    (hst : X.stack = X.env :: X.outer := by rfl) (hf : X.env.frame = some L := by rfl) (hex : X.ex = [] := by rfl) (hxe : X.xe = (fun _ _ => False) := by rfl) (hg : Gl X fx := by rfl) (hgc : Gl X c := by rfl) (hj : j ≤ k := by decide)
    (hdb : (fx == ("__debug__" : Str)) = false := by decide) (hdc : (c == ("__debug__" : Str)) = false := by decide) (he : starEach (e :: es) X.env = (false, eval e X.env) :: starEach es X.env := by rfl) (hpl : (backTo cpos (starEach es X.env)).any (·.1) = false := by rfl)
    (hsw : swapsWith (.Call (.Name fx fp) (e :: es) [] cpos) none apos.line X.env = pure false := by rfl) :
    PS X (.Try [.Expr (.Call (.Name fx fp) (e :: es) [] cpos) apos] [.ExceptHandler (some (.Name c cp)) (some nx) (b0 :: suite) hp] [] [] pos) (tTryEs X.K X.mg sp t c m th) := by
  intro pins s σ H DD I h
  refine wpAny_Try_except (wpAny_execs_cons (wpAny_Expr_any (try_call (QQ := fun σ _ H2 => DD.nx σ H2) (EE := fun _ cls _ H2 => ∃ C, cls = .ref C ∧ Hit X.K X.mg c C ∧ ∀ x, H2 x = none → th (DD.gone m) (σ.set m (some (.ref x))) (upd H2 x (ExO x C)))
    D hr ha hxe hg hj hdb he hpl I h (fun v s2 ⟨w', H2, I2, rw', q2⟩ => ?_) fun H1 s1 I1 e' s2 hx => ?_) I.quiet hsw))
  · exact wpAny_execs_nil (wpAny_execs_nil ⟨_, H2, I2, q2⟩)
  · obtain ⟨x, C, T, H2, a0, rfl, os, bare, un, hok, n1, n2, u1, u2, tr, C2, ec, Z, q2⟩ := hx
    cases ec
    exact handle_as hst hf hex hN hn hl I1 n1 n2 (I1.call' (ch := []) os un hok bare (fun _ z => nomatch z)) tr u1 u2 Z hs (q2 x u1) hgc hdc
end
end L2
namespace L2
open PySem PySem.Spec PyProof.Rows
section
variable {X : Cx}
end
/-! ### greatest divisors -/
section
variable {t b p q : Int}
end
/-! ### a number of the script, or one made of it -/
/-- a def that may raise, at what it does not raise for -/
theorem DfE.df {P : Program} {w : World} {K : PySem.W.Frag} {mg : Str → Option Value} {base : Heap} {k : Nat} {x : Str} {ps : List Str} {sp : Sp} (D : DfE P w K mg base k x ps sp) : Df P w K mg base k x ps fun vs H Q _ => sp vs H Q E0 := by
  obtain ⟨f, fd, F, b, hm, kp⟩ := D.ex
  refine ⟨f, fd, ⟨fun vs H Q E h => F.len vs H Q E0 h, fun A outer s H args us vs Q E hr e0 hb hv hs => ?_⟩, b, hm, kp⟩
  refine codeAny_mono (F.run A outer s H args us vs Q E0 hr e0 hb hv hs) fun z s' hq => ?_
  cases z with
  | error e =>
    obtain ⟨x, C, T, H', a0, _, _, _, _, _, _, _, _, _, _, h⟩ := hq
    exact h.elim
  | ok fl => cases fl <;> exact hq
end L2
namespace L2
open PySem PySem.Spec PyProof.Rows
section
variable {X : Cx}
end
/-- the class that a name of the text stands for -/
noncomputable def clsV (mg : Str → Option Value) (x : Str) : Value := (mg x).getD .none
theorem clsV_eq {K : PySem.W.Frag} {mg : Str → Option Value} {x : Str} {C : Addr} (Z : ExcCl K mg x C) : clsV mg x = .ref C := by
  unfold clsV
  rw [Z.mg]
  rfl
theorem exc_mk {K : PySem.W.Frag} {h : Heap} {mg : Str → Option Value} {x : Str} {C : Addr} (X : K.In h) (G : h.Ns mainGlobals mg) (a : PySem.W.nsIn K mainGlobals x = some (some (.ref C)))
    (b : PySem.W.excIn K C vErr "ValueError.__new__" = true) : ExcCl K mg x C := ⟨PySem.W.mg_of X G a, b⟩
theorem hit_mk {K : PySem.W.Frag} {mg : Str → Option Value} {x c : Str} {C C' : Addr} (Z : ExcCl K mg x C) (Y : ExcCl K mg c C') (m : PySem.W.mroIn K C (.ref C') = some true) : Hit K mg c C := ⟨Z.ok, C', Y, m⟩
theorem none_mk {K : PySem.W.Frag} {h : Heap} {mg : Str → Option Value} {x : Str} (X : K.In h) (G : h.Ns mainGlobals mg) (a : PySem.W.nsIn K mainGlobals x = some none) : mg x = none := PySem.W.mg_none_of X G a
end L2
namespace L2
open PySem PySem.Spec PyProof.Rows
theorem isDs2 {K : PySem.W.Frag} {H : Hp} (x y : Int) : IsDs K H [.int x, .int y] [.int x, .int y] := .cons (.int _) (.cons (.int _) .nil)
theorem eqv2 (x y : Int) : PyData.eqv (.tuple [.int x, .int y]) (.tuple [.int x, .int y]) = true := SeqAt.eqv_refl _ rfl
end L2
namespace L2
open PySem PySem.Spec PyProof.Rows
section
variable {X : Cx} {K : PySem.W.Frag}
end
end L2
namespace L2
open PySem PySem.Spec PyProof.Rows
section
variable {t b p q p' q' : Int}
end
end L2
namespace L2
open PySem PySem.Spec PyProof.Rows
section
variable {X : Cx}
end
end L2
namespace L2
open PySem PySem.Spec PyProof.Rows
section
variable {X : Cx} {pins : List (Addr × Obj)} {σ : St} {H : Hp} {s : Shared}
end
section
variable {X : Cx} {tg : Expr}
end
end L2
namespace L2
open PySem PySem.Spec PyProof.Rows
section
variable {X : Cx}
end
end L2
namespace L2
open PySem PySem.Spec PyProof.Rows
section
variable {X : Cx}
/-- l.insert(i, y), i from 0 -/
noncomputable def rInsert : V → List V → Hp → VK → Prop := fun x vs H Q => ∃ l xs i y, x = .ref l ∧ vs = [.int i, y] ∧ H l = some (.lst xs) ∧ 0 ≤ i ∧ i < 2 ^ 62 ∧ xs.length < sizeLine ∧ Q .non (upd H l (.lst (xs.take i.toNat ++ y :: xs.drop i.toNat)))
theorem mt_insert : MtM X "list.insert" rInsert := by
  intro pins s σ H x vs v us Q I rx rv h
  obtain ⟨l, xs, i, y, rfl, rfl, hH, h1, h2, hz, q⟩ := h
  cases rx
  obtain ⟨u1, u2, rfl, ⟨t, rfl⟩, r2⟩ := vals2 rv
  obtain ⟨z, its, n, r, hl, e⟩ := I.lstM hH
  refine call_meets F.slot_list_insert ⟨_, e, rfl⟩ F.entry_list_insert (F.args_list_insert_3 _ _ _) (AutoSeq1.list_insert_list_int_val_1 l its.toArray n i t u2 (by rw [fitsIndex_both (by omega) (by omega)]; decide) (by rw [List.size_toArray]; omega)) ⟨e, ?_⟩
  refine ⟨.non, _, I.lset (its' := its.take i.toNat ++ u2 :: its.drop i.toNat) hH e ?_ ?_ ?_, rfl, q⟩
  · show ((its.toArray.extract 0 (if i < 0 then (i + (its.toArray.size : Int)).toNat else min i.toNat its.toArray.size)).push u2 ++ its.toArray.extract (if i < 0 then (i + (its.toArray.size : Int)).toNat else min i.toNat its.toArray.size)) = _
    rw [if_neg (by omega)]
    apply Array.ext'
    simp only [Array.toList_append, Array.toList_push, Array.toList_extract, List.size_toArray, List.extract_eq_take_drop, List.drop_zero, Nat.sub_zero, List.append_assoc, List.singleton_append]
    by_cases hi : i.toNat ≤ its.length
    · rw [Nat.min_eq_left hi]
      congr 2
      rw [List.take_of_length_le (by rw [List.length_drop]; exact Nat.le_refl _)]
    · rw [Nat.min_eq_right (by omega), List.take_length, List.drop_length, List.drop_eq_nil_of_le (show its.length ≤ i.toNat by omega), List.take_of_length_le (l := its) (show its.length ≤ i.toNat by omega)]
      simp
  · exact (r.take i.toNat).append (.cons r2 (r.drop i.toNat))
  · rw [List.length_append, List.length_cons, List.length_take, List.length_drop]
    omega
end
end L2
namespace L2
open PySem PySem.Spec PyProof.Rows
section
variable {X : Cx} {K : PySem.W.Frag}
end
end L2
namespace L2
open PySem PySem.Spec PyProof.Rows
end L2
namespace L2
open PySem PySem.Spec PyProof.Rows
section
variable {X : Cx}
end
end L2
namespace L2
open PySem PySem.Spec PyProof.Rows
/-- room, whatever is handled -/
structure RoomM (k : Nat) (A : Around) : Prop where
  dp : A.depth + 3 * k + 5 < recursionLimit
  un : A.units + 16 * k + 200 < cLine
theorem Room.m {k : Nat} {A : Around} (r : Room k A) : RoomM k A := ⟨r.dp, r.un⟩
theorem RoomM.mono {j k : Nat} {A : Around} (r : RoomM k A) (h : j ≤ k) : RoomM j A := ⟨by have := r.dp; omega, by have := r.un; omega⟩
theorem Room.marked {k : Nat} {A : Around} (r : Room k A) (v : Option Value) : RoomM k (A.mark v) := ⟨r.dp, r.un⟩
noncomputable abbrev Cx.uncalm (X : Cx) : Cx := { X with calm := false, xe := fun _ _ => False }
/-- a def that may be called while an exception is handled, as its callers take it -/
structure DfM (P : Program) (w : World) (K : PySem.W.Frag) (mg : Str → Option Value) (base : Heap) (k : Nat) (x : Str) (ps : List Str) (sp : Sp) : Prop where
  ex : ∃ f fd, ((∀ vs H Q E, sp vs H Q E → vs.length = ps.length) ∧ ∀ (A : Around) (outer : List Env) (s : Shared) (H : Hp) (args : Args) (us : List Value) (vs : List V) (Q : VK) (E : XK), RoomM k A → Env0 P w K mg base A outer s H → BindsTo s fd args (ps.zip us) → Vals vs us → sp vs H Q E →
    codeAny (model P w) A (.call (.ref f) args) (CR CX0 outer P w H s Q E) s) ∧ Binds K fd ps [] ∧ mg x = some (.ref f) ∧ PySem.W.keepIn K (.ref f) = true
section
variable {P : Program} {w : World} {K : PySem.W.Frag} {mg : Str → Option Value} {base : Heap}
theorem DfM.df {k : Nat} {x : Str} {ps : List Str} {sp : Sp} (D : DfM P w K mg base k x ps sp) : Df P w K mg base k x ps sp := by
  obtain ⟨f, fd, ⟨l, r⟩, b, hm, kp⟩ := D.ex
  exact ⟨f, fd, ⟨l, fun A outer s H args us vs Q E hr => r A outer s H args us vs Q E hr.m⟩, b, hm, kp⟩
theorem inv_uncalm {CX : CXT} {N : List Str} {qual : Str} {scope : Scope} {f : Addr} {cd : Value} {A : Around} {outer : List Env} {s s' : Shared} {H H' : Hp} {E : XK} {pins : List (Addr × Obj)} {σ : St}
    (I : Inv (cxOf CX P w K mg base N qual scope f cd { A with handled := none } outer s H E) pins σ H' s') (hf : (A.deeper (envOfC qual scope s.heap.objs.size f cd)).frames = some (envOfC qual scope s.heap.objs.size f cd :: outer)) :
    Inv (cxOf CX P w K mg base N qual scope f cd A outer s H E).uncalm pins σ H' s' :=
  ⟨⟨I.ok.mod, I.ok.kind, I.ok.glob, I.ok.blt, I.ok.above, I.ok.inj, I.ok.has, I.ok.cab, (fun z => by cases z), hf, I.ok.stk, I.ok.exf, I.ok.bs, I.ok.bsz, I.ok.noex, I.ok.exfs, I.ok.funs, I.ok.frf⟩, I.os, I.bare, I.base, I.loc, I.cell, I.free, I.freeC, I.pin, I.hok, I.len⟩
theorem Tx.dfM {x : Str} {st : Stmt} {N ps : List Str} {k : Nat} {sp : Sp} (T : Tx K mg x st ps) (S : FnScope N ps (defScope st))
    (len : ∀ vs H Q E, sp vs H Q E → vs.length = ps.length)
    (hbody : ∀ (f : Addr) (cdv : Value) (A : Around) (outer : List Env) (s : Shared) (H : Hp) (vs : List V) (Q : VK) (E : XK), RoomM k (A.deeper (envOfC x (defScope st) s.heap.objs.size f cdv)) → sp vs H Q E →
      ∃ t, PSs (cxOf CX0 P w K mg base N x (defScope st) f cdv A outer s H E).uncalm (defBody st) t ∧ t { nx := fun _ H' => Q .non H', rt := Q } (start N vs) H) : DfM P w K mg base (k + 1) x ps sp := by
  obtain ⟨f, fd, Fu, b, hm⟩ := T.ex
  obtain ⟨oc, od, kV, doc, pm, an, cdv, ct, osl, rfl, lk, hcd⟩ := id Fu.ex
  refine ⟨f, _, ⟨len, fun A outer s H args us vs Q E hr e0 hb r hsp => ?_⟩, b, hm, Fu.kp⟩
  have hl := len _ _ _ _ hsp
  have KX : K.In s.heap := e0.mod.kin.keeps fun b o e => (e0.bs b o e).1
  have lim : s.heap.NoLimit := e0.mod.nolimit.keeps fun b o e => (e0.bs b o e).1
  have hkind : ∀ y ∈ ps.zip us, (defScope st).names.lookup y.1 = some .local ∨ ((defScope st).names.lookup y.1 = some .cell ∧ ((cellsFrom (s.heap.objs.size + 1) (defScope st).names []).lookup y.1).isSome = true) := fun y hy => by
    rcases S.par y.1 (List.of_mem_zip hy).1 with z | z
    · exact .inl z
    · exact .inr ⟨z, PySem.W.cellsFrom_some _ _ _ (.inl z)⟩
  have hdp : A.depth < recursionLimit := by have := hr.dp; omega
  refine codeAny_call_function hdp (KX _ _ lk) rfl S.co S.gen rfl (PySem.W.codeRec_of KX hcd) (hb _ _ _ _ ?_)
  refine wpAny_newFunctionEnv_cells S.kind hkind fun env he s1 x1 => ?_
  subst he
  refine ⟨lim.keeps x1.toInCall.keep, codeAny_func ?_⟩
  have hrd : RoomM k (A.deeper (envOfC x (defScope st) s.heap.objs.size f cdv)) := by
    have r0 : Room (k + 1) { A with handled := none } := ⟨rfl, hr.dp, hr.un⟩
    have r1 := r0.deeper (envOfC x (defScope st) s.heap.objs.size f cdv)
    exact ⟨r1.dp, r1.un⟩
  obtain ⟨t, ht, hq⟩ := hbody f cdv A outer s H vs Q E hrd hsp
  have I0 : Inv (cxOf CX0 P w K mg base N x (defScope st) f cdv { A with handled := none } outer s H E) [] (start N vs) H s1 :=
    inv_start S rfl ⟨e0.frames, e0.mod, e0.bs, e0.bsz, e0.funs, e0.frf, e0.hok, e0.bare⟩ hl r x1
  have I := inv_uncalm I0 (Around.frames_deeper e0.frames)
  refine wpAny_mono (ht [] s1 (start N vs) H _ I hq) (fun fl s' hs => ?_) fun e s' hs => False.elim hs
  have fin : ∀ {σ' : St} {H' : Hp} {v : V} {u : Value}, Inv (cxOf CX0 P w K mg base N x (defScope st) f cdv A outer s H E).uncalm [] σ' H' s' → RelV v u → Q v H' → CE outer P w H s Q u s' :=
    fun {σ' H' v u} J rv q => ⟨v, H', J.os, J.bare, J.base, J.hok, rv, q⟩
  cases fl with
  | ret u =>
    obtain ⟨v, σ', H', J, rv, q⟩ := hs
    exact fin J rv q
  | next =>
    obtain ⟨σ', H', J, q⟩ := hs
    exact fin (v := V.non) (u := Value.none) J rfl q
  | brk =>
    obtain ⟨_, _, _, q⟩ := hs
    exact False.elim q
  | cont =>
    obtain ⟨_, _, _, q⟩ := hs
    exact False.elim q
end
section
variable {X : Cx}
/-- f(e, ..), whatever is handled -/
theorem pe_dfM {j k : Nat} {x : Str} {ps : List Str} {sp : Sp} {p pos : Pos} {e : Expr} {es : List Expr} {t : TA} (D : DfM X.prog X.w X.K X.mg X.base j x ps sp) (hr : RoomM k X.A) (ha : PA X (e :: es) t) (hg : Gl X x := by rfl) (hj : j ≤ k := by decide)
    (hdb : (x == ("__debug__" : Str)) = false := by decide) (he : starEach (e :: es) X.env = (false, eval e X.env) :: starEach es X.env := by rfl) (hpl : (backTo pos (starEach es X.env)).any (·.1) = false := by rfl) :
    PE X (.Call (.Name x p) (e :: es) [] pos) (tCE sp E0 t) := by
  obtain ⟨f, fd, ⟨len, run⟩, b, hm, kp⟩ := D.ex
  intro pins s σ H Q I h
  refine wpAny_Call_Name_kw (ld_glob I hg hm ?_ hdb)
  refine PySem.W.callWith_K (h₀ := X.base) I.ok.mod.kin kp (thn (ha pos pins s σ H _ I h) fun us s1 ⟨vs, H1, I1, r, q⟩ => ⟨I1.kIn, ?_⟩) he hpl
  have hl : (us ++ []).length = ps.length := by rw [List.append_nil, ← r.length]; exact len _ _ _ _ q
  have hb' := b s1 us I1.kIn hl
  rw [List.append_nil] at hb'
  refine wpAny_call (codeAny_mono (run X.A X.stack s1 H1 ⟨us, []⟩ us vs Q E0 (hr.mono hj) I1.env0 hb' r q) fun z s' hq => ?_)
  cases z with
  | error e => exact False.elim hq
  | ok fl =>
    cases fl with
    | ret u => exact I1.after hq
    | next => exact False.elim hq
    | brk => exact False.elim hq
    | cont => exact False.elim hq
end
end L2
namespace L2
open PySem PySem.Spec PyProof.Rows
section
variable {X : Cx}
/-- C(e, ..), an exception made as a value (its class without an __init__) -/
noncomputable def tMkX (C : Addr) (t : TA) : TE := fun σ H Q => t σ H fun vs H1 => vs.length ≤ sizeLine ∧ ∀ x, H1 x = none → Q (.ref x) (upd H1 x (ExO x C))
theorem pe_exc {c : Str} {C : Addr} {e : Expr} {es : List Expr} {t : TA} {np cpos : Pos} (Z : ExcCl X.K X.mg c C) (kp : PySem.W.keepIn X.K (.ref C) = true) (ha : PA X (e :: es) t) (hg : Gl X c := by rfl) (hex : X.ex = [] := by rfl) (hdb : (c == ("__debug__" : Str)) = false := by decide)
    (he : starEach (e :: es) X.env = (false, eval e X.env) :: starEach es X.env := by rfl) (hpl : (backTo cpos (starEach es X.env)).any (·.1) = false := by rfl) :
    PE X (.Call (.Name c np) (e :: es) [] cpos) (tMkX C t) := by
  intro pins s σ H Q I h
  refine wpAny_Call_Name_kw (ld_glob I hg Z.mg ?_ hdb)
  refine PySem.W.callWith_K (h₀ := X.base) I.ok.mod.kin kp (thn (ha cpos pins s σ H _ I h) fun us s1 ⟨vs, H1, I1, r, hl, q⟩ => ⟨I1.kIn, ?_⟩) he hpl
  obtain ⟨tl, N, nm, qn, bs, hdt, sn, sub, ab, col, dd, k0, k1, k2, k3, k5, mN, hC, hN, hni, T, _⟩ := exc_of_in I1.kIn Z.ok
  have hx0 : us.length ≤ sizeLine := by rw [← r.length]; exact hl
  obtain ⟨hp, g, d, tk, os⟩ := s1
  refine wpAny_call_exc_subT (hrest := hx0) PySem.F.excBase_ValueError T hC hN hni fun h' x hx => ?_
  obtain ⟨p1, p2, p3, p4⟩ := I1.apart hex hx.new
  obtain ⟨tt, ht, _, _⟩ := hx.there
  have I2 := I1.kept (t' := tk) hx.keeps
  exact ⟨.ref x, _, I2.trackX p1 (I1.untr hx.new) p2 p3 p4 ht rfl, rfl, q x (I1.untr hx.new)⟩
end
end L2
namespace L2
open PySem PySem.Spec PyProof.Rows
end L2
namespace L2
open PySem PySem.Spec PyProof.Rows
end L2
namespace L2
end L2
/-! ### the divisor of the program -/
/-! ### dict(pairs) -/
namespace PySem

namespace F
end F
namespace F
end F
section
variable {prog : Program} {w : World} {A : Around} {E : Value → Shared → Prop} {h : Heap} {g : Array GenState} {d : Drawn} {t : Nat} {os : OsState} {a : Addr} {o : Obj}
end
section
variable {prog : Program} {w : World} {K : Type} [DecidableEq K] {knd : KeyKind prog w K} {A : Around} {E : Value → Shared → Prop} {s : Shared}
namespace F
end F
end
end PySem
namespace L2
open PySem PySem.Spec PyProof.Rows
section
variable {X : Cx}
end
end L2
namespace L2
open PySem PySem.Spec PyProof.Rows
section
variable {X : Cx}
end
/-! ### a dict of shares -/
section
variable {K : PySem.W.Frag} {H : Hp}
end
end L2
namespace L2
open PySem PySem.Spec PyProof.Rows
/-! ### the order of texts -/
/-! ### fractions -/
/-! ### what is told of a dict of shares -/
end L2
namespace L2
open PySem PySem.Spec PyProof.Rows
end L2
namespace L2
open PySem PySem.Spec PyProof.Rows
end L2
namespace L2
open PySem PySem.Spec PyProof.Rows
end L2
namespace L2
open PySem PySem.Spec PyProof.Rows
end L2
namespace L2
open PySem PySem.Spec
end L2
namespace L2
open PySem PySem.Spec PyProof.Rows
end L2
namespace L2
open PySem PySem.Spec PyProof.Rows
section
variable {X : Cx} {e k : Expr} {te : TE} {tk : TO} {pos p2 : Pos}
end
end L2
namespace L2
open PySem PySem.Spec PyProof.Rows
/-! ### mixed -/
end L2
namespace L2
open PySem PySem.Spec PyProof.Rows
end L2
namespace L2
end L2
namespace L2
open PySem PySem.Spec PyProof.Rows
/-! ### the lesser, quotients, sums -/
end L2
namespace L2
open PySem PySem.Spec PyProof.Rows
/-! ### who loses what -/
variable {D : Int} {O : Sh} {lack : Int × Int}
end L2
namespace L2
open PySem PySem.Spec PyProof.Rows
/-! ### the shares behind a part pressed -/
section
variable {D : Int} {S : Sh} {g k : Str} {f : Int × Int}
end
end L2
namespace L2
open PySem PySem.Spec PyProof.Rows
end L2
namespace L2
open PySem PySem.Spec PyProof.Rows
section
variable {D : Int} {S : Sh} {g k : Str} {f : Int × Int}
end
end L2
namespace L2
open PySem PySem.Spec PyProof.Rows
end L2
namespace L2
open PySem PySem.Spec PyProof.Rows
end L2
namespace L2
open PySem PySem.Spec PyProof.Rows
/-! ### columns as keys: tuples of tuples of ints and texts -/
section
variable {P : Program} {w : World}
variable {A : Around} {E : Value → Shared → Prop} {s : Shared}
end
end L2
namespace L2
open PySem PySem.Spec PyProof.Rows
section
variable {P : Program} {w : World} {A : Around} {E : Value → Shared → Prop} {s : Shared}
end
end L2
namespace L2
open PySem PySem.Spec PyProof.Rows
/-! ### dicts by columns -/
section
variable {X : Cx} {pins : List (Addr × Obj)} {σ : St} {H : Hp} {s : Shared}
end
section
variable {X : Cx} {o i e f value : Expr} {td ty tv tx : TE} {pos pos' apos cpos : Pos}
end
end L2
namespace L2
open PySem PySem.Spec PyProof.Rows
section
variable {P : Program} {w : World} {A : Around} {E : Value → Shared → Prop} {s : Shared} {it d : Addr} {i ep : Nat} {od : Obj} {es : Array DictEntry}
end
section
variable {X : Cx} {tg : Expr}
end
end L2
namespace PySem
namespace F
end F
section
variable {prog : Program} {w : World} {A : Around} {E : Value → Shared → Prop} {s : Shared} {r l : Addr} {items : Array Value}
end
end PySem
namespace PySem
section
variable {prog : Program} {w : World} {A : Around} {E : Value → Shared → Prop} {s : Shared} {r l : Addr} {items : Array Value}
end
end PySem
namespace L2
open PySem PySem.Spec PyProof.Rows
section
variable {X : Cx}
end
end L2
namespace L2
open PySem PySem.Spec PyProof.Rows
open LM (lowN)
/-! ### strips -/
/-! ### the pairs put together by columns -/
end L2

namespace L2
open PySem PySem.Spec PyProof.Rows
open LM (lowN)
end L2
namespace L2
open PySem PySem.Spec PyProof.Rows
section
variable {X : Cx} {o i e f value : Expr} {td ty tv tx : TE} {pos pos' apos cpos : Pos} {P : Program} {w : World} {K : PySem.W.Frag}
end
end L2
namespace L2
open PySem PySem.Spec PyProof.Rows
end L2
namespace L2
open PySem PySem.Spec PyProof.Rows
/-! ### burdens, as they lie -/
end L2
namespace L2
open PySem PySem.Spec PyProof.Rows
open LM (lowN)
/-! ### the strips of a ground, cell by cell -/
/-! ### a ground, as it lies: a dict of cells with columns -/
end L2
namespace L2
open PySem PySem.Spec PyProof.Rows
end L2
namespace L2
open PySem PySem.Spec PyProof.Rows My
end L2
namespace L2
open PySem PySem.Spec PyProof.Rows
end L2
namespace L2
open PySem PySem.Spec PyProof.Rows
noncomputable def numR : List Key → Int
  | .inl n :: _ => n
  | _ => 0
end L2
namespace L2
open PySem PySem.Spec PyProof PyProof.Rows
/-! ### max(xs, default=d) of a list of ints -/
section
variable {prog : Program} {w : World} {A : Around} {R : Result → Shared → Prop} {I S : Addr} {fp wr : List Addr} {n : Nat} {P : Nat → Value → Prop} {St : Nat → Heap → Prop} {kw : List (Str × Value)} {bt : Nat → Nat → Bool}
end
section
variable {X : Cx} {e d : Expr} {t : TA} {td : TE} {p kp pos : Pos}
end
end L2
namespace L2
open PySem PySem.Spec PyProof.Rows
end L2
namespace L2
open PySem PySem.Spec PyProof.Rows
end L2
namespace L2
open PySem PySem.Spec PyProof.Rows
end L2
namespace L2
open PySem PySem.Spec PyProof.Rows
end L2
namespace L2
open PySem PySem.Spec PyProof.Rows
section
variable {P : Program} {w : World} {A : Around} {E : Value → Shared → Prop} {s : Shared} {it a : Addr} {its : Array Value} {i : Nat}
end
section
variable {X : Cx} {pins : List (Addr × Obj)} {σ : St} {H : Hp} {s : Shared} {h' : Heap}
end
section
variable {X : Cx} {elts : List Expr} {x1 : Nat} {tp : Pos}
end
end L2
namespace L2
open PySem PySem.Spec PyProof.Rows
section
variable {prog : Program} {w : World} {A : Around} {E : Value → Shared → Prop} {s : Shared}
end
section
variable {X : Cx}
end
end L2
namespace L2
open PySem PySem.Spec PyProof.Rows LM
end L2
namespace L2
open PySem PySem.Spec PyProof.Rows
end L2
namespace L2
open PySem PySem.Spec PyProof.Rows
section
variable {K : PySem.W.Frag} {H6 H H' : Hp} {lb dd dl : Addr} {bs : List V} {kd kl : List (Key × V)} {B : List Col} {fD fL : Nat → Option Col}
end
end L2
namespace L2
open PySem PySem.Spec PyProof.Rows
section
variable {X : Cx}
end
end L2
namespace L2
open PySem PySem.Spec PyProof.Rows
end L2
namespace L2
open PySem PySem.Spec PyProof.Rows
section
variable {K : PySem.W.Frag} {H H' : Hp}
end
end L2
namespace L2
open PySem PyProof.Rows
section
variable {prog : Program} {w : World} {A : Around} {E : Value → Shared → Prop} {s : Shared}
end
end L2
namespace L2
open PySem PyProof.Rows
end L2
namespace L2
open PySem PyProof.Rows
section
variable {prog : Program} {w : World} {A : Around} {E : Value → Shared → Prop} {s : Shared}
end
end L2
namespace L2
open PySem PyProof.Rows
end L2
namespace L2
open PySem PyProof.Rows
section
variable {prog : Program} {w : World} {A : Around} {E : Value → Shared → Prop} {s : Shared}
end
end L2
namespace L2
open PySem PyProof.Rows
section
variable {prog : Program} {w : World} {A : Around} {E : Value → Shared → Prop} {s : Shared} {a₀ : Array Keyed} {z : SortSt} {lo : Nat}
end
end L2
namespace L2
open PySem PyProof.Rows
section
variable {prog : Program} {w : World} {A : Around} {E : Value → Shared → Prop} {s : Shared} {a₀ : Array Keyed} {z : SortSt} {lo : Nat}
end
end L2
namespace L2
open PySem PyProof.Rows
section
variable {prog : Program} {w : World} {A : Around} {E : Value → Shared → Prop} {s : Shared} {a₀ : Array Keyed}
end
end L2
namespace L2
open PySem PyProof.Rows
section
variable {prog : Program} {w : World} {A : Around} {E : Value → Shared → Prop} {s : Shared} {a₀ : Array Keyed}
end
end L2
namespace L2
open PySem PySem.Spec PyProof.Rows
section
variable {prog : Program} {w : World} {A : Around} {E : Value → Shared → Prop} {s : Shared} {D kS : Addr} {vs : List Value} {kz : List Int} {ky : List Value} {c1 c2 : Nat} {P : PySem.Fin → Shared → Prop}
end
section
variable {X : Cx} {k : Nat} {f : Addr} {fd : FuncData} {ps : List Str} {sp : Sp}
end
end L2
namespace L2
open PySem PySem.Spec PyProof.Rows LM
end L2
namespace L2
open PySem PySem.Spec PyProof.Rows LM
section
variable {X : Cx} {pins : List (Addr × Obj)} {σ : St} {H : Hp} {s : Shared}
end
end L2
namespace L2
open PySem PySem.Spec PyProof.Rows LM
end L2
namespace L2
open PySem PySem.Spec PyProof.Rows LM
end L2
namespace L2
open PySem PySem.Spec PyProof.Rows LM
end L2
namespace L2
open PySem PySem.Spec PyProof.Rows
end L2
namespace L2
open PySem PySem.Spec PyProof.Rows LM
end L2
namespace L2
open PySem PySem.Spec PyProof.Rows
section
variable {X : Cx} {tg : Expr}
end
end L2
namespace L2
open PySem PySem.Spec PyProof.Rows LM
noncomputable def isS : V → Bool
  | .str _ => true
  | _ => false
theorem kit_str (K : PySem.W.Frag) {H : Hp} {x : V} {n : String} (ty : TyOf K H x (.type n)) : PySem.W.kitOne K (.type n) (.type "str") = some (isS x) := by
  cases ty <;> kernel_rfl
end L2
namespace L2
open PySem PySem.Spec PyProof.Rows LM
theorem TyOf.same {K : PySem.W.Frag} {H H' : Hp} {v : V} {n : String} (s : Same H H') (h : TyOf K H v (.type n)) : TyOf K H' v (.type n) := by
  cases h with
  | non => exact .non
  | bl x => exact .bl x
  | int i => exact .int i
  | str x => exact .str x
  | flt x => exact .flt x
  | lst e => exact .lst (s _ _ e)
  | frz e => exact .frz (s _ _ e)
  | tup e => exact .tup (s _ _ e)
  | dK e => exact .dK (s _ _ e)
  | dT e => exact .dT (s _ _ e)
end L2
namespace L2
open PySem PySem.Spec PyProof.Rows LM
section
variable {X : Cx}
end
/-! ### sums of fractions -/
end L2
namespace L2
open PySem PySem.Spec PyProof.Rows LM
end L2
namespace L2
open PySem PySem.Spec PyProof.Rows LM
end L2
namespace L2
open PySem PySem.Spec PyProof.Rows
section
variable {X : Cx}
end
end L2
namespace L2
open PySem PySem.Spec PyProof.Rows LM
theorem mem_ins {α : Type} {y p : α} {ys : List α} {j : Nat} (h : p ∈ ys.take j ++ y :: ys.drop j) : p ∈ ys ∨ p = y := by
  rcases List.mem_append.mp h with z | z
  · exact .inl (List.mem_of_mem_take z)
  · rcases List.mem_cons.mp z with w | w
    · exact .inr w
    · exact .inl (List.mem_of_mem_drop w)
end L2
namespace PySem
open Sem (wp)
section
variable {prog : Program} {w : World} {A : Around} {E : Value → Shared → Prop} {h : Heap} {g : Array GenState} {d : Drawn} {t : Nat} {os : OsState}
variable {nm q : Str} {C N : Addr} {bs bm bmB : List Value} {hdct : Bool} {sn : List Str} {sub : List Value} {ab : Bool} {col : Option Bool} {dd : Option Addr} {k0 k1 k2 k3 k5 : Option Value} {B newId initId : String}
/-- an exception of an own class under own classes, with an __init__ of its own -/
theorem wpAny_type_call_exc_initT (F : ExcBaseFacts B newId initId bmB) (T : OwnTail h bmB bm) {mN : Str → Option Value} {rest : List Value} {fI : Addr} {oI : Obj} {Q : Fin → Shared → Prop}
    (hC : h.get? C = some (excClassObj nm q C N bs bm hdct sn sub ab col dd k0 k1 k2 k3 k5 newId)) (hn : h.Ns N mN) (hi : mN "__init__" = some (.ref fI))
    (hfI : h.get? fI = some oI) (hfc : oI.cls = .type "function")
    (hq : ∀ h' e, Heap.MadeExcOf h h' e (.ref C) rest →
      wpAny (model prog w) A (call (.ref fI) (.ref e :: rest)) (fun r s' => r = .none ∧ Q (.done (.ret (.ref e))) s') E ⟨h', g, d, t, os⟩) (hrest : rest.length ≤ sizeLine := by size_fits) :
    wpAny (model prog w) A (Builtin.«type.__call__» ⟨.ref C :: rest, []⟩) Q E ⟨h, g, d, t, os⟩ := by
  repeat (first | with_reducible refine wpAny_loadPart_at hC ?_ | with_reducible refine wpAny_madeBy_exc hC ?_ | wp_step)
  refine codeAny_call_builtin_code (Code.quiet_builtin _ F.quiet) (wpAny_check_new_subT F T hC ?_)
  refine codeAny_exc_new_subT F T hC ?_ hrest
  show wpAny _ _ _ _ _ _
  have hC₁ := Heap.get?_push_of_some { cls := .ref C, data := .fields #[.ref h.objs.size, .none, .none, .none, .bool false, .none] }
    (Heap.get?_push_of_some { cls := .type "tuple", data := .seq rest.toArray } hC)
  have hfI₁ := Heap.get?_push_of_some { cls := .ref C, data := .fields #[.ref h.objs.size, .none, .none, .none, .bool false, .none] }
    (Heap.get?_push_of_some { cls := .type "tuple", data := .seq rest.toArray } hfI)
  have hn₁ : ((h.push { cls := .type "tuple", data := .seq rest.toArray }).push { cls := .ref C, data := .fields #[.ref h.objs.size, .none, .none, .none, .bool false, .none] }).Ns N mN :=
    let ⟨o, es, ep, e, r⟩ := hn; ⟨o, es, ep, Heap.get?_push_of_some _ (Heap.get?_push_of_some _ e), r⟩
  have hget : ((h.push { cls := .type "tuple", data := .seq rest.toArray }).push
      { cls := .ref C, data := .fields #[.ref h.objs.size, .none, .none, .none, .bool false, .none] }).get? (h.objs.size + 1) = some
      { cls := .ref C, data := .fields #[.ref h.objs.size, .none, .none, .none, .bool false, .none] } := by heap_get
  have hcC : (Value.ref C :: bm).contains (.ref C) = true := by simp
  have T₁ := T.keeps (h' := (h.push { cls := .type "tuple", data := .seq rest.toArray }).push { cls := .ref C, data := .fields #[.ref h.objs.size, .none, .none, .none, .bool false, .none] })
    fun b o e => Heap.get?_push_of_some _ (Heap.get?_push_of_some _ e)
  unfold isInstance
  repeat (first | with_reducible refine wpAny_loadPart_at hget ?_ | (with_reducible refine wpAny_isSubtype_exc hC₁ ?_; rw [hcC]) | wp_step)
  show wpAny _ _ (typeLookup (.ref C) _) _ _ _
  refine wpAny_typeLookup_tail hC₁ hn₁ T₁ F.mroIs F.init.lookup ?_
  rw [hi]
  refine wpAny_holding (wpAny_bind ?_)
  unfold bindSpecial
  refine wpAny_bind (wpAny_typeOf (T := "function") ⟨_, hfI₁, hfc⟩ ?_)
  rw [if_pos (by decide)]
  refine wpAny_pure (wpAny_bind (wpAny_mono (hq _ (h.objs.size + 1) ⟨fun b o hb => Heap.get?_push_of_some _ (Heap.get?_push_of_some _ hb), Heap.get?_none_of_le (Nat.le_succ _), h.objs.size, hget, Heap.get?_none_of_le (Nat.le_refl _), ?_⟩) (fun r s' hr => ?_) fun _ _ x => x))
  · exact Heap.get?_push_of_some _ (Heap.get?_push_at rfl rfl)
  · obtain ⟨rfl, hQ⟩ := hr
    wp_walk
    exact hQ
theorem wpAny_call_exc_initT (F : ExcBaseFacts B newId initId bmB) (T : OwnTail h bmB bm) {mN : Str → Option Value} {rest : List Value} {fI : Addr} {oI : Obj} {Q : Value → Shared → Prop}
    (hC : h.get? C = some (excClassObj nm q C N bs bm hdct sn sub ab col dd k0 k1 k2 k3 k5 newId)) (hn : h.Ns N mN) (hi : mN "__init__" = some (.ref fI))
    (hfI : h.get? fI = some oI) (hfc : oI.cls = .type "function")
    (hq : ∀ h' e, Heap.MadeExcOf h h' e (.ref C) rest →
      wpAny (model prog w) (A.under (.builtin "type.__call__" ⟨.ref C :: rest, []⟩)) (call (.ref fI) (.ref e :: rest)) (fun r s' => r = .none ∧ Q (.ref e) s') E ⟨h', g, d, t, os⟩) (hrest : rest.length ≤ sizeLine := by size_fits) :
    wpAny (model prog w) A (call (.ref C) rest) Q E ⟨h, g, d, t, os⟩ := by
  have f1 := tc_lookup
  have f2 := tc_bind (.ref C)
  have hT : (⟨h, g, d, t, os⟩ : Shared).TypeIs (.ref C) "type" := ⟨_, hC, rfl⟩
  refine wpAny_call (codeAny_of_tree ?_)
  show wpAny _ _ (callAny (.ref C) _) _ _ _
  repeat (any_goals (first | assumption | with_reducible refine wpAny_loadPart_at hC ?_ | wp_step))
  refine ⟨rfl, ?_⟩
  refine codeAny_call_builtin_at (Code.quiet_builtin _ (by decide +kernel)) entry_typeCall (wpAny_check_type_call_sub hC (wpAny_type_call_exc_initT (hrest := hrest) F T hC hn hi hfI hfc fun h' e hm => ?_))
  exact hq h' e hm
end
end PySem
namespace PySem.W
open PySem PySem.Calls PyProof.Rows Builtin Builtin.ObjectAttr
def vErr4 : List Value := [.type "ValueError", .type "Exception", .type "BaseException", .type "object"]
/-- own classes, then ValueError's -/
noncomputable def onlyV : List Value → Bool
  | [] => false
  | v :: r => (v :: r) == vErr4 || (match v with | .ref _ => onlyV r | _ => false)
theorem refuse_onlyV (self : Value) : ∀ {l : List Value}, onlyV l = true → refuseLoop self "__setattr__" l = pure ()
  | [], e => by cases e
  | v :: r, e => by
    unfold onlyV at e
    rcases Bool.or_eq_true_iff.mp e with q | q
    · rw [show (v :: r) = vErr4 from beq_iff_eq.mp q]; exact PySem.F.store_ValueError.passes self
    · split at q
      · rw [refuseLoop_ref]; exact refuse_onlyV self q
      · cases q
theorem onlyV_has {T : String} (hT : vErr4.contains (.type T) = true) : ∀ {l : List Value}, onlyV l = true → l.contains (.type T) = true
  | [], e => by cases e
  | v :: r, e => by
    unfold onlyV at e
    rcases Bool.or_eq_true_iff.mp e with q | q
    · rw [show (v :: r) = vErr4 from beq_iff_eq.mp q]; exact hT
    · split at q
      · rw [List.contains_cons, onlyV_has hT q, Bool.or_true]
      · cases q
noncomputable def plainX (K : Frag) (C : Addr) : Bool := (clsIn K C).any fun cd => onlyV cd.mro && cd.hasDict
section
variable {K : Frag} {prog : Program} {w : World} {A : Around} {R : Result → Shared → Prop} {s : Shared} {x C : Addr}
theorem osaX_open {ox : Obj} {od : Option Obj} {name : Str} {tk : Tok} {v : Value} {r : Option Value} (X : K.In s.heap) (I : InstAt s.heap x ox C od) (hp : plainX K C = true) (ht : takerIn K C name = some r)
    (h : ∀ b, wpAny (model prog w) A.in1 (match r with | some a => setByDescriptor a (.ref x) v | none => storeInOwnDict (.ref x) (.ref C) (.str name tk) name v b)
      (fun fin s' => match fin with | .done f => R (.ok f) s' | .again c' => c'.quiet = true ∧ codeAny (model prog w) A c' R s') (fun e s' => R (.error e) s') s) :
    codeAny (model prog w) A (.call (.builtin "object.__setattr__") ⟨[.ref x, .str name tk, v], []⟩) R s := by
  have SF := PySem.F.store_ValueError
  obtain ⟨cd, hc, ho⟩ := any_some hp
  obtain ⟨ho, _⟩ := Bool.and_eq_true_iff.mp ho
  have ne : cd.mro.isEmpty = false := by cases q : cd.mro with | nil => rw [q] at ho; cases ho | cons _ _ => rfl
  have sub : Looks (model prog w) s.heap (isInstance (.ref x) (.type "object")) true := I.type.andThen (looks_mroIn X (by unfold mroIn; rw [hc, Option.bind_some, if_neg (by rw [ne]; decide), onlyV_has rfl ho]))
  refine codeAny_call_builtin SF.slot.plain SF.entry (@check_slot (model prog w) _ _ s "object.__setattr__" "object" "__setattr__" (.ref x) [.str name tk, v] [] _ SF.kind SF.split sub (SF.args (.ref x) (.str name tk) v) ?_)
  obtain ⟨attr, ha, hr⟩ := Option.bind_eq_some_iff.mp ht
  have hm : Looks (model prog w) s.heap (mroOf (.ref C)) cd.mro := (looks_clsIn X hc).andThen .now
  have L3 : Looks (model prog w) s.heap (storeTaker? attr) r := by
    cases attr with
    | none => cases hr; exact .now
    | some a =>
      obtain ⟨b, hb, rfl⟩ := Option.map_eq_some_iff.mp hr
      refine (looks_takesIn X hb).andThen ?_
      cases b <;> exact .now
  rw [osa_eq, refuse_eq]
  refine wpAny_bind (wpAny_bind (I.type.here (wpAny_bind (hm.here ?_))))
  rw [refuse_onlyV _ ho]
  refine wpAny_pure (wpAny_bind (I.type.here (wpAny_bind ((looks_findIn X ha).here (wpAny_bind (L3.here ?_))))))
  exact h _
/-- x.name = v, the first name of an exception -/
theorem setX_first {E : Value → Shared → Prop} {ox : Obj} {name : Str} {v : Value} {Q : Unit → Shared → Prop} (X : K.In s.heap) (hx : s.heap.get? x = some ox) (hcl : ox.cls = .ref C) (hnc : notCls ox = true) (hdn : ox.dict = none)
    (hs : findIn K (.ref C) "__setattr__" = some (some (.builtin "object.__setattr__"))) (hp : plainX K C = true) (ht : takerIn K C name = some none)
    (hq : ∀ h', (∀ b o, b ≠ x → s.heap.get? b = some o → h'.get? b = some o) → h'.get? x = some { ox with dict := some s.heap.objs.size } → h'.Ns1 s.heap.objs.size (fun y => if y = name then some v else none) → ∀ t', Q () { s with heap := h', toks := t' }) :
    wpAny (model prog w) A (setAttr (.ref x) name v) Q E s := by
  have I : InstAt s.heap x ox C none := ⟨hx, hcl, hnc, by rw [hdn]; trivial⟩
  refine set_plain X I hs ?_
  refine osaX_open (s := { s with toks := s.toks + 1 }) X I hp ht fun b => ?_
  obtain ⟨cd, hc, ho⟩ := any_some hp
  obtain ⟨_, hd'⟩ := Bool.and_eq_true_iff.mp ho
  obtain ⟨hh, g, d, t, os⟩ := s
  obtain ⟨oc, odi, oda, osl⟩ := ox
  dsimp only at hcl hdn
  subst hcl hdn
  have hx₁ : (hh.push { cls := .type "dict", data := .dict #[] }).get? x = some ⟨.ref C, none, oda, osl⟩ := Heap.get?_push_of_some _ hx
  have hxs : x ≠ hh.objs.size := Nat.ne_of_lt (Heap.lt_size hx)
  refine wpAny_bind (wpAny_pure (wpAny_bind (wpAny_bind (wpAny_loadPart hx (wpAny_bind (Looks.here (s := ⟨hh, g, d, t + 1, os⟩) (looks_clsIn X hc) ?_))))))
  rw [hd']
  rw [if_neg (by decide)]
  split
  · rename_i hcd
    cases hcd
  rw [if_neg (by simp [typeHasDict])]
  split
  · rename_i c hcd
    rw [show oda = Data.cls c from hcd] at hnc
    cases hnc
  refine wpAny_bind (wpAny_alloc' ?_)
  refine wpAny_bind (wpAny_update' hx₁ ?_)
  refine wpAny_pure ?_
  have hgd : ((hh.push { cls := .type "dict", data := .dict #[] }).update x fun o => { cls := o.cls, dict := some hh.objs.size, data := o.data, slots := o.slots }).get? hh.objs.size
      = some { cls := .type "dict", data := .dict #[] } :=
    (Heap.get?_update_ne _ _ _ _ hxs.symm).trans (Heap.get?_push_at rfl rfl)
  have hnd : ((hh.push { cls := .type "dict", data := .dict #[] }).update x fun o => { cls := o.cls, dict := some hh.objs.size, data := o.data, slots := o.slots }).Ns hh.objs.size (fun _ => none) :=
    ⟨_, #[], _, hgd, rfl, fun e he => absurd he (by simp), fun _ => rfl⟩
  show wpAny _ _ (storeInDict hh.objs.size (.str name t) name v) _ _ _
  unfold storeInDict newKeyGuard
  refine wpAny_bind (wpAny_pure (wpAny_bind (wpAny_nsSet1 (Heap.Ns1.of_empty hnd) fun h' hn' hs2 => ?_)))
  obtain ⟨oD, esD, epD, hoD, hdD, hcD⟩ := hn'.count (Within.cons name v Within.nil)
  refine wpAny_bind (wpAny_lookBehind hoD (by rw [hdD]; exact pastItsLine_dict (Nat.le_trans hcD (by rw [List.length_cons, List.length_nil, sizeLine_eq]; omega))) ?_)
  refine wpAny_pure (hq h' (fun b ob hbx hb => ?_) ?_ hn' _)
  · exact (hs2.2 b (Nat.ne_of_lt (Heap.lt_size hb))).trans ((Heap.get?_update_ne _ _ _ _ hbx).trans (Heap.get?_push_of_some _ hb))
  · refine (hs2.2 x hxs).trans (Heap.get?_update_self _ hx₁ ?_)
    have hfr := (Heap.get?_some_iff.mp hx).2
    cases oda <;> first | rfl | exact hfr
/-- x.name = v, a further name -/
theorem setX_more {E : Value → Shared → Prop} {ox : Obj} {dx : Addr} {mA : Str → Option Value} {ns : List Str} {name : Str} {v : Value} {Q : Unit → Shared → Prop} (X : K.In s.heap) (hx : s.heap.get? x = some ox) (hcl : ox.cls = .ref C) (hnc : notCls ox = true) (hdx : ox.dict = some dx) (hns : s.heap.Ns1 dx mA)
    (hs : findIn K (.ref C) "__setattr__" = some (some (.builtin "object.__setattr__"))) (hp : plainX K C = true) (ht : takerIn K C name = some none) (hw : Within mA ns) (hsz : ns.length < sizeLine)
    (hq : ∀ h', (∀ b, b ≠ dx → h'.get? b = s.heap.get? b) → h'.Ns1 dx (fun y => if y = name then some v else mA y) → ∀ t', Q () { s with heap := h', toks := t' }) :
    wpAny (model prog w) A (setAttr (.ref x) name v) Q E s := by
  obtain ⟨od, es0, ep0, hod, _⟩ := id hns
  have I : InstAt s.heap x ox C (some od) := ⟨hx, hcl, hnc, by rw [hdx]; exact hod⟩
  refine set_plain X I hs ?_
  refine osaX_open (s := { s with toks := s.toks + 1 }) X I hp ht fun b => ?_
  obtain ⟨cd, hc, ho⟩ := any_some hp
  obtain ⟨_, hd'⟩ := Bool.and_eq_true_iff.mp ho
  obtain ⟨hh, g, d, t, os⟩ := s
  obtain ⟨oc, odi, oda, osl⟩ := ox
  dsimp only at hcl hdx
  subst hcl hdx
  refine wpAny_bind (wpAny_pure (wpAny_bind (wpAny_bind (wpAny_loadPart hx (wpAny_bind (Looks.here (s := ⟨hh, g, d, t + 1, os⟩) (looks_clsIn X hc) ?_))))))
  rw [hd']
  refine wpAny_pure (a := some dx) ?_
  show wpAny _ _ (storeInDict dx (.str name t) name v) _ _ _
  unfold storeInDict newKeyGuard
  refine wpAny_bind (wpAny_pure (wpAny_bind (wpAny_nsSet1 hns fun h' hn' hs2 => ?_)))
  obtain ⟨oD, esD, epD, hoD, hdD, hcD⟩ := hn'.count (Within.cons name v hw)
  refine wpAny_bind (wpAny_lookBehind hoD (by rw [hdD]; exact pastItsLine_dict (Nat.le_trans hcD (by rw [List.length_cons]; omega))) ?_)
  exact wpAny_pure (hq h' (fun b hb => hs2.2 b hb) hn' _)
end
end PySem.W
namespace PySem.W
open PySem PySem.Calls PyProof.Rows Builtin Builtin.ObjectAttr
section
variable {K : Frag} {prog : Program} {w : World} {A : Around} {E : Value → Shared → Prop} {x C dx : Addr} {ox : Obj} {mA : Str → Option Value} {name : Str} {v : Value}
  {hh : Heap} {g : Array GenState} {d : Drawn} {t : Nat} {os : OsState}
theorem getX_entry {tk : Tok} {Q : Fin → Shared → Prop} (X : K.In hh) (hx : hh.get? x = some ox) (hcl : ox.cls = .ref C) (hnc : notCls ox = true) (hdx : ox.dict = some dx) (hns : hh.Ns1 dx mA) (hv : mA name = some v)
    (hp : plainX K C = true) (hna : findIn K (.ref C) name = some none) (hq : Q (.done (.ret v)) ⟨hh, g, d, t, os⟩) :
    wpAny (model prog w) A (Builtin.«object.__getattribute__» ⟨[.ref x, .str name tk], []⟩) Q E ⟨hh, g, d, t, os⟩ := by
  obtain ⟨cd, hc, ho⟩ := any_some hp
  obtain ⟨_, hd'⟩ := Bool.and_eq_true_iff.mp ho
  unfold Builtin.«object.__getattribute__»
  repeat (first | (with_reducible refine wpAny_loadPart_at hx ?_; rw [hcl]) | (with_reducible refine Looks.here (s := ⟨hh, g, d, t, os⟩) (looks_findIn X hna) ?_) | wp_step)
  split
  · rename_i c hcd
    unfold notCls at hnc
    rw [hcd] at hnc
    cases hnc
  unfold instanceDict
  repeat (first | (with_reducible refine wpAny_loadPart_at hx ?_; rw [hcl]) | (with_reducible refine Looks.here (s := ⟨hh, g, d, t, os⟩) (looks_clsIn X hc) ?_; rw [hd']) | wp_step)
  rw [hdx]
  repeat (first | (with_reducible refine wpAny_nsGet hns.ns ?_; rw [hv]) | wp_step)
  exact hq
theorem getX_call {tk : Tok} {R : Result → Shared → Prop} (X : K.In hh) (hx : hh.get? x = some ox) (hcl : ox.cls = .ref C) (hnc : notCls ox = true) (hdx : ox.dict = some dx) (hns : hh.Ns1 dx mA) (hv : mA name = some v)
    (hp : plainX K C = true) (hna : findIn K (.ref C) name = some none) (hq : R (.ok (.ret v)) ⟨hh, g, d, t, os⟩) :
    codeAny (model prog w) A (.call (.builtin "BaseException.__getattribute__") ⟨[.ref x, .str name tk], []⟩) R ⟨hh, g, d, t, os⟩ := by
  obtain ⟨cd, hc, ho⟩ := any_some hp
  obtain ⟨ho, _⟩ := Bool.and_eq_true_iff.mp ho
  obtain ⟨od, es0, ep0, hod, _⟩ := id hns
  have I : InstAt hh x ox C (some od) := ⟨hx, hcl, hnc, by rw [hdx]; exact hod⟩
  have ne : cd.mro.isEmpty = false := by cases q : cd.mro with | nil => rw [q] at ho; cases ho | cons _ _ => rfl
  have sub : Looks (model prog w) hh (isInstance (.ref x) (.type "BaseException")) true := I.type.andThen (looks_mroIn X (by unfold mroIn; rw [hc, Option.bind_some, if_neg (by rw [ne]; decide), onlyV_has rfl ho]))
  exact codeAny_call_builtin PySem.F.excAttr_ValueError.ga.plain PySem.F.entry_bexc_ga (@check_slot (model prog w) _ _ ⟨hh, g, d, t, os⟩ "BaseException.__getattribute__" "BaseException" "__getattribute__" (.ref x) [.str name tk] [] _ (by decide +kernel) (by decide +kernel) sub (PySem.F.args_bexc_ga (.ref x) (.str name tk)) (getX_entry X hx hcl hnc hdx hns hv hp hna hq))
/-- x.name of an exception -/
theorem getX {expr : Bool} {Q : Value → Shared → Prop} (X : K.In hh) (hx : hh.get? x = some ox) (hcl : ox.cls = .ref C) (hnc : notCls ox = true) (hdx : ox.dict = some dx) (hns : hh.Ns1 dx mA) (hv : mA name = some v)
    (hp : plainX K C = true) (hga : findIn K (.ref C) "__getattribute__" = some (some (.builtin "BaseException.__getattribute__"))) (hgt : findIn K (.ref C) "__getattr__" = some none) (hna : findIn K (.ref C) name = some none) (hh' : handedOut v = pure v)
    (hq : Q v ⟨hh, g, d, t + 1, os⟩) : wpAny (model prog w) A (getAttr (.ref x) name expr) Q E ⟨hh, g, d, t, os⟩ := by
  have f3 := PySem.F.excAttr_ValueError.ga.bind (.ref x)
  have hx0 : (expr && onTheHeap (Value.builtin "BaseException.__getattribute__")) = false := by cases expr <;> rfl
  have hx2 : (Value.builtin "BaseException.__getattribute__" == Value.builtin "object.__getattribute__") = false := by decide +kernel
  have hx1 : (onTheHeap (Value.ref C) && Value.builtin "BaseException.__getattribute__" == Value.builtin "object.__getattribute__") = false := by rw [hx2]; rfl
  unfold getAttr getAttrBy
  repeat (any_goals (first | assumption | (with_reducible refine wpAny_loadPart_at hx ?_; rw [hcl]) | (with_reducible refine Looks.here (s := ⟨hh, g, d, t + 1, os⟩) (looks_findIn X hga) ?_) | (with_reducible refine Looks.here (s := ⟨hh, g, d, t + 1, os⟩) (looks_findIn X hgt) ?_) | wp_step))
  refine getX_call X hx hcl hnc hdx hns hv hp hna ?_
  show wpAny _ _ (handedOut v) _ _ _
  rw [hh']
  exact wpAny_pure hq
end
end PySem.W
namespace PySem.W
open PySem PySem.Calls PyProof.Rows
theorem ns_some_of {K : Frag} {h : Heap} {N : Addr} {mg : Str → Option Value} {n : Str} {v : Value} (X : K.In h) (G : h.Ns N mg) (e : nsIn K N n = some (some v)) : mg n = some v := by
  obtain ⟨o, es, ep, ho, hd, _, hf⟩ := G
  unfold nsIn at e
  split at e
  · rename_i c d es' n' sl q
    have := X _ _ q
    rw [ho] at this
    cases this
    cases hd
    split at e
    · rename_i en he
      cases e
      rw [← hf]
      unfold nsFind findBy
      rw [← Array.find?_toList, he]
      rfl
    · split at e <;> cases e
  · cases e
/-- as excIn, of a class with an __init__ of its own -/
noncomputable def excInI (K : Frag) (C : Addr) (bmB : List Value) (newId : String) (fI : Addr) : Bool := match K.lookup C with
  | some ⟨.type "type", _, .cls cd, sl⟩ => (match cd.mro, sl.toList with
    | .ref C' :: bm, [_, _, _, _, some (.builtin n), _] => C' == C && n == newId && !cd.hasDel && tailIn K bmB bm && nsOkIn K cd.ns && nsIn K cd.ns "__init__" == some (some (.ref fI))
    | _, _ => false)
  | _ => false
theorem exc_of_inI {K : Frag} {h : Heap} {C fI : Addr} (X : K.In h) (z : excInI K C vErr4 "ValueError.__new__" fI = true) :
    ∃ tl N nm qn bs hd sn sub ab col dd k0 k1 k2 k3 k5 mN, h.get? C = some (excClassObj nm qn C N bs tl hd sn sub ab col dd k0 k1 k2 k3 k5 "ValueError.__new__") ∧ h.Ns N mN ∧ mN "__init__" = some (.ref fI) ∧ OwnTail h vErr4 tl ∧ ∀ b r, mroIn K C b = some r → (Value.ref C :: tl).contains b = r := by
  unfold excInI at z
  split at z
  case h_2 => cases z
  case h_1 dd cd sl ho =>
    split at z
    case h_2 => cases z
    case h_1 C' tl k0 k1 k2 k3 n k5 hm hs =>
      rw [Bool.and_eq_true, Bool.and_eq_true, Bool.and_eq_true, Bool.and_eq_true, Bool.and_eq_true, beq_iff_eq, beq_iff_eq, beq_iff_eq] at z
      obtain ⟨⟨⟨⟨⟨z1, z2⟩, z3⟩, z4⟩, z5⟩, z6⟩ := z
      subst z1
      subst z2
      have z3' : cd.hasDel = false := by simpa using z3
      obtain ⟨nm, bs, mro, ns, qn, hd, sn, sub, ab, col, del⟩ := cd
      dsimp only at hm z3' z5 z6
      subst hm
      subst z3'
      obtain rfl : sl = #[k0, k1, k2, k3, some (.builtin "ValueError.__new__"), k5] := by
        rw [← hs]
      have hN : h.Ns ns _ := .of_isNs (isNs_of_in X z5)
      exact ⟨tl, ns, nm, qn, bs, hd, sn, sub, ab, col, dd, k0, k1, k2, k3, k5, _, X _ _ ho, hN, ns_some_of X hN z6, tail_of_in X z4, fun b r hr => by
        unfold mroIn clsIn at hr
        rw [ho] at hr
        simpa using hr⟩
section
variable {K : Frag} {prog : Program} {w : World} {A : Around} {E : Value → Shared → Prop} {x C : Addr} {hh : Heap} {g : Array GenState} {d : Drawn} {t : Nat} {os : OsState}
  {nm q : Str} {N : Addr} {bs bm : List Value} {hdct : Bool} {sn : List Str} {sub : List Value} {ab : Bool} {col : Option Bool} {dd : Option Addr} {k0 k1 k2 k3 k5 : Option Value} {newId : String}
/-- ValueError.__init__(x, ..) -/
theorem initX {t0 : Addr} {rest : List Value} {Q : Value → Shared → Prop} (T : OwnTail hh vErr4 bm) (hC : hh.get? C = some (excClassObj nm q C N bs bm hdct sn sub ab col dd k0 k1 k2 k3 k5 "ValueError.__new__"))
    (hx : hh.get? x = some { cls := .ref C, data := .fields #[.ref t0, .none, .none, .none, .bool false, .none] })
    (hq : ∀ h', (∀ b o, b ≠ x → hh.get? b = some o → h'.get? b = some o) → h'.get? x = some { cls := .ref C, data := .fields #[.ref hh.objs.size, .none, .none, .none, .bool false, .none] } → Q .none ⟨h', g, d, t, os⟩) (hrest : rest.length ≤ sizeLine := by size_fits) :
    wpAny (model prog w) A (call (.builtin "ValueError.__init__") (.ref x :: rest)) Q E ⟨hh, g, d, t, os⟩ := by
  have F := PySem.F.excBase_ValueError
  refine wpAny_call (codeAny_call_builtin F.init.plain F.initEntry (wpAny_check_init_subT F T hC hx rfl ?_))
  wp_walk
  have hx₁ : (hh.push { cls := Value.type "tuple", data := Data.seq rest.toArray }).get? x = some { cls := .ref C, data := .fields #[.ref t0, .none, .none, .none, .bool false, .none] } := Heap.get?_push_of_some _ hx
  refine hq _ (fun b o ne e => ?_) ?_
  · rw [Heap.get?_update_other _ _ (Ne.symm ne)]
    exact Heap.get?_push_of_some _ e
  · rw [Heap.get?_update_self _ hx₁ rfl]
    rfl
end
end PySem.W
namespace L2
open PySem PySem.Spec PyProof.Rows
/-- an exception of the class C as it lies; its dict at d -/
noncomputable def XO (x C : Addr) (d : Option Addr) : HO := .ext fun h => ∃ t0, h.get? x = some { cls := .ref C, dict := d, data := .fields #[.ref t0, .none, .none, .none, .bool false, .none] }
/-- the dict of an exception -/
noncomputable def XD (a : Addr) (fs : List (Str × V)) : HO := .ext fun h => ∃ mA, h.Ns1 a mA ∧ (∀ f, RelO (fs.lookup f) (mA f)) ∧ PySem.Within mA (fs.map (·.1))
section
variable {P : Program} {w : World} {H : Hp} {h : Heap} {x C a : Addr} {d : Option Addr} {fs : List (Str × V)}
theorem xo_ok (e : ∃ t0, h.get? x = some { cls := .ref C, dict := d, data := .fields #[.ref t0, .none, .none, .none, .bool false, .none] }) : ObjOk P w H h x (XO x C d) := by
  obtain ⟨t0, e⟩ := e
  exact ⟨⟨t0, e⟩, ⟨_, e⟩, fun h1 h2 ⟨t, e1⟩ k => ⟨t, k _ e1⟩⟩
theorem xd_ok {mA : Str → Option Value} (n : h.Ns1 a mA) (r : ∀ f, RelO (fs.lookup f) (mA f)) (w' : PySem.Within mA (fs.map (·.1))) : ObjOk P w H h a (XD a fs) := by
  obtain ⟨o, es, ep, e, c⟩ := id n
  exact ⟨⟨mA, n, r, w'⟩, ⟨o, e⟩, fun h1 h2 ⟨mA', ⟨o1, es1, ep1, e1, c1⟩, r1, w1⟩ k => ⟨mA', ⟨o1, es1, ep1, k _ e1, c1⟩, r1, w1⟩⟩
end
theorem upd_eq {H : Hp} {a : Addr} {o : HO} (e : H a = some o) : upd H a o = H := by
  funext b
  unfold upd
  split
  · rename_i z; rw [z, e]
  · rfl
section
variable {X : Cx} {pins : List (Addr × Obj)} {σ : St} {H : Hp} {s : Shared}
/-- an exception that lies untracked is tracked -/
theorem Inv.trackO {x C : Addr} {d : Option Addr} (I : Inv X pins σ H s) (n1 : X.s₀.heap.get? x = none) (u1 : H x = none) (p2 : ∀ p ∈ X.pn ++ pins, p.1 ≠ x) (p3 : ∀ y c, X.env.cells.lookup y = some c → c ≠ x) (p4 : x ≠ X.env.locals)
    (e : ∃ t0, s.heap.get? x = some { cls := .ref C, dict := d, data := .fields #[.ref t0, .none, .none, .none, .bool false, .none] }) : Inv X pins σ (upd H x (XO x C d)) s := by
  have nx : ∀ b u, H b = some u → b ≠ x := fun b u e z => by rw [z, u1] at e; cases e
  refine ⟨I.ok, I.os, I.bare, ⟨I.base.keep, I.base.slot, fun b o' e1 n hx => ?_, I.base.there, fun b xs e1 => ?_, fun b o' u e1 => ?_, fun b ps e1 => ?_⟩, I.loc, I.cell, ?_, fun y c e1 => ?_, fun p hp => ?_, fun b u e1 => ?_, I.len⟩
  · rw [upd_ne (fun z => by rw [z, n1] at e1; cases e1)]
    exact I.base.free b o' e1 n hx
  · have q := I.base.tups b xs e1
    rw [upd_ne (nx b _ q)]; exact q
  · have q := I.base.frzs b o' u e1
    rw [upd_ne (nx b _ q)]; exact q
  · obtain ⟨more, q⟩ := I.base.tbls b ps e1
    exact ⟨more, by rw [upd_ne (nx b _ q)]; exact q⟩
  · rw [upd_ne (Ne.symm p4)]; exact I.free
  · rw [upd_ne (p3 y c e1)]; exact I.freeC y c e1
  · obtain ⟨a1, a2, a3⟩ := I.pin p hp
    exact ⟨a1, by rw [upd_ne (p2 p hp)]; exact a2, a3⟩
  · by_cases hb : b = x
    · subst hb
      rw [upd_same] at e1
      cases e1
      exact xo_ok e
    · rw [upd_ne hb] at e1
      refine (I.hok b u e1).stay (fun _ _ _ q => q) (fun c q => ?_) fun c xs q => ?_
      · rw [upd_ne (nx c _ q)]; exact q
      · rw [upd_ne (nx c _ q)]; exact q
/-- a class of exceptions with an __init__ of its own -/
structure ExcI (K : PySem.W.Frag) (mg : Str → Option Value) (x : Str) (C fI : Addr) : Prop where
  mg : mg x = some (.ref C)
  ok : PySem.W.excInI K C PySem.W.vErr4 "ValueError.__new__" fI = true
  fn : PySem.W.isFn K (.ref fI) = true
  kp : PySem.W.keepIn K (.ref C) = true
/-- C(..) of such a class -/
noncomputable def tMakeX (C : Addr) (sp : Sp) (E : XK) (t : TA) : TE := fun σ H Q => t σ H fun vs H1 => vs.length ≤ sizeLine ∧ ∀ x, H1 x = none → sp (.ref x :: vs) (upd H1 x (XO x C none)) (fun v H2 => v = .non ∧ Q (.ref x) H2) E
theorem run_makeX {CX : CXT} {k : Nat} {f C : Addr} {fd : FuncData} {ps : List Str} {sp : Sp} {E : XK} {c : Str} {Q : VK} {us : List Value} {vs : List V} (M : ExcI X.K X.mg c C f) (F : FnOk X.prog X.w X.K X.mg X.base CX k f fd ps sp) (hr : Room (k + 1) X.A) (hb : Binds X.K fd ps [])
    (hx : Passes CX X E) (hex : X.ex = []) (I : Inv X pins σ H s) (r : Vals vs us) (hl : vs.length ≤ sizeLine)
    (h : ∀ x, H x = none → sp (.ref x :: vs) (upd H x (XO x C none)) (fun v H2 => v = .non ∧ Q (.ref x) H2) E) :
    wpAny (model X.prog X.w) X.A (call (.ref C) us) (EP X pins σ Q) X.xe s := by
  obtain ⟨tl, N, nm, qn, bs, hdt, sn, sub, ab, col, dd, k0, k1, k2, k3, k5, mN, hC, hN, hi, T, _⟩ := PySem.W.exc_of_inI I.kIn M.ok
  have hx0 : us.length ≤ sizeLine := by rw [← r.length]; exact hl
  obtain ⟨oI, hfI, hfc⟩ : ∃ oI, s.heap.get? f = some oI ∧ oI.cls = .type "function" := by
    have z := beq_iff_eq.mp M.fn
    obtain ⟨o, ho, hc⟩ := Option.map_eq_some_iff.mp z
    exact ⟨o, I.kIn _ _ ho, hc⟩
  obtain ⟨hp, g, d, tk, os⟩ := s
  refine wpAny_call_exc_initT (hrest := hx0) PySem.F.excBase_ValueError T hC hN hi hfI hfc fun h' x hm => ?_
  obtain ⟨p1, p2, p3, p4⟩ := I.apart hex hm.new
  obtain ⟨tt, ht, _, _⟩ := hm.there
  have I2 := (I.kept (t' := tk) hm.keeps).trackO p1 (I.untr hm.new) p2 p3 p4 ⟨tt, ht⟩
  have hq := h x (I.untr hm.new)
  have r2 : Vals (V.ref x :: vs) (Value.ref x :: us) := .cons rfl r
  have hl2 : (Value.ref x :: us ++ []).length = ps.length := by
    have e := r2.length
    rw [F.len _ _ _ _ hq] at e
    rw [List.append_nil]
    exact e.symm
  have hb' := hb _ (Value.ref x :: us) I2.kIn hl2
  rw [List.append_nil] at hb'
  refine wpAny_call (codeAny_mono (F.run _ X.stack _ _ ⟨Value.ref x :: us, []⟩ (Value.ref x :: us) _ _ E (hr.make C us []) (I2.env0.make C us []) hb' r2 hq) fun z s' hq' => ?_)
  cases z with
  | error e => exact hx pins σ _ _ e s' I2 hq'
  | ok fl =>
    cases fl with
    | ret u =>
      obtain ⟨v, H', I3, rv, ev, q3⟩ := I2.after hq'
      subst ev
      exact ⟨rv, ⟨V.ref x, H', I3, rfl, q3⟩⟩
    | next => exact False.elim hq'
    | brk => exact False.elim hq'
    | cont => exact False.elim hq'
theorem pe_excI {CX : CXT} {k : Nat} {f C : Addr} {fd : FuncData} {ps : List Str} {sp : Sp} {E : XK} {c : Str} {e : Expr} {es : List Expr} {t : TA} {np pos : Pos} (M : ExcI X.K X.mg c C f) (F : FnOk X.prog X.w X.K X.mg X.base CX k f fd ps sp) (hr : Room (k + 1) X.A) (hb : Binds X.K fd ps []) (hx : Passes CX X E)
    (ha : PA X (e :: es) t) (hg : Gl X c := by rfl) (hex : X.ex = [] := by rfl) (hdb : (c == ("__debug__" : Str)) = false := by decide) (he : starEach (e :: es) X.env = (false, eval e X.env) :: starEach es X.env := by rfl) (hpl : (backTo pos (starEach es X.env)).any (·.1) = false := by rfl) :
    PE X (.Call (.Name c np) (e :: es) [] pos) (tMakeX C sp E t) := by
  intro pins s σ H Q I h
  refine wpAny_Call_Name_kw (ld_glob I hg M.mg ?_ hdb)
  refine PySem.W.callWith_K (h₀ := X.base) I.ok.mod.kin M.kp (thn (ha pos pins s σ H _ I h) fun us s1 ⟨vs, H1, I1, r, hl, q⟩ => ⟨I1.kIn, ?_⟩) he hpl
  exact run_makeX M F hr hb hx hex I1 r hl q
/-- c.__init__ of the class c is ValueError's -/
structure ClsI (K : PySem.W.Frag) (mg : Str → Option Value) (c : Str) (L : Addr) : Prop where
  mg : mg c = some (.ref L)
  rd : PySem.W.readsIn K L (.type "type") = true
  sp : PySem.W.specialIn K (.ref L) "__getattribute__" = some (some (.builtin "type.__getattribute__"))
  fc : PySem.W.findCls K (.ref L) (.type "type") "__init__" = some (.val (.builtin "ValueError.__init__"))
noncomputable def tInitX (K : PySem.W.Frag) (t : TA) : TE := fun σ H Q => t σ H fun vs H1 => ∃ x C f r, vs = .ref x :: r ∧ r.length ≤ sizeLine ∧ H1 x = some (XO x C none) ∧ PySem.W.excInI K C PySem.W.vErr4 "ValueError.__new__" f = true ∧ Q .non H1
/-- c.__init__(self, ..) -/
theorem pe_initX {c : Str} {L : Addr} {e : Expr} {es : List Expr} {t : TA} {np apos pos : Pos} {pl : Sem Bool} (Z : ClsI X.K X.mg c L) (ha : PA X (e :: es) t) (hg : Gl X c := by rfl) (hdb : (c == ("__debug__" : Str)) = false := by decide)
    (hst : starEach (e :: es) X.env = (false, eval e X.env) :: starEach es X.env := by rfl) (hpl : (backTo pos (starEach es X.env)).any (·.1) = false := by rfl)
    (ht : eval (.Call (.Attribute (.Name c np) "__init__" apos) (e :: es) [] pos) X.env = (do
      let ov ← eval (.Name c np) X.env
      standAt apos.atName
      let (f, first) ← holding [ov] (getMethod ov "__init__" pl)
      callWith pos f first (backTo pos (starEach (e :: es) X.env)) (backToKw pos (keywordEach [] X.env))) := by rfl) :
    PE X (.Call (.Attribute (.Name c np) "__init__" apos) (e :: es) [] pos) (tInitX X.K t) := by
  intro pins s σ H Q I h
  refine PySem.W.methodCall_KW (pl := pl) (thn (pe_glob (v := .ref L) hg Z.mg rfl hdb pins s σ H (fun x H1 => x = .ref L ∧ H1 = H) I ⟨rfl, rfl⟩) fun u s1 ⟨x, H1, I1, rx, ex, eH⟩ => ?_) ht
  subst ex eH
  obtain rfl : u = Value.ref L := rx
  refine PySem.W.method_cls I1.kIn Z.sp (PySem.W.cls_value I1.kIn Z.rd Z.fc (by decide +kernel) ?_)
  refine PyProof.Rows.callWith_builtin1 (thn (ha pos pins _ σ _ _ (I1.tok _) h) fun us s2 ⟨vs, H2, I2, r2, q2⟩ => ?_) hst hpl
  obtain ⟨x, C, f, r, rfl, hl, hx, ok, q⟩ := q2
  obtain ⟨u0, us', rfl, r0, r1⟩ : ∃ u0 us', us = u0 :: us' ∧ RelV (.ref x) u0 ∧ Vals r us' := by
    cases r2 with
    | cons a b => exact ⟨_, _, rfl, a, b⟩
  obtain rfl : u0 = Value.ref x := r0
  obtain ⟨tl, N, nm, qn, bs, hdt, sn, sub, ab, col, dd, k0, k1, k2, k3, k5, mN, hC, hN, hi, T, _⟩ := PySem.W.exc_of_inI I2.kIn ok
  obtain ⟨t0, ht0⟩ := (I2.hok x _ hx).1
  obtain ⟨hp, g, d, tk, os⟩ := s2
  refine PySem.W.initX T hC ht0 (fun h' keep e' => ?_) (by rw [← r1.length]; exact hl)
  have J := I2.write (x := x) (e := x) (o := XO x C none) (t' := tk) (by rw [hx]; trivial) (.inl rfl) keep ⟨_, e'⟩ (xo_ok ⟨_, e'⟩)
  rw [upd_eq hx] at J
  exact ⟨.non, H2, J, rfl, q⟩
theorem relO_cons {fs : List (Str × V)} {mA : Str → Option Value} {f : Str} {y : V} {u : Value} (r : ∀ g, RelO (fs.lookup g) (mA g)) (ry : RelV y u) : ∀ g, RelO (((f, y) :: fs).lookup g) (if g = f then some u else mA g) := fun g => by
  by_cases z : g = f
  · subst z
    rw [if_pos rfl, List.lookup_cons, beq_self_eq_true]
    exact ry
  · rw [if_neg z, List.lookup_cons, show (g == f) = false from beq_eq_false_iff_ne.mpr z]
    exact r g
/-- what a class of exceptions must have for its names to be set -/
structure FldX (K : PySem.W.Frag) (C : Addr) (f : Str) : Prop where
  st : PySem.W.findIn K (.ref C) "__setattr__" = some (some (.builtin "object.__setattr__"))
  pl : PySem.W.plainX K C = true
  tk : PySem.W.takerIn K C f = some none
noncomputable def sFldX (K : PySem.W.Frag) (ta tv : TE) (f : Str) : TS := fun D σ H => tv σ H fun y H1 => ta σ H1 fun x H2 => ∃ a C, x = .ref a ∧ FldX K C f ∧
  ((H2 a = some (XO a C none) ∧ ∀ dx, H2 dx = none → dx ≠ a → D.nx σ (upd (upd H2 a (XO a C (some dx))) dx (XD dx [(f, y)]))) ∨
   (∃ dx fs, H2 a = some (XO a C (some dx)) ∧ H2 dx = some (XD dx fs) ∧ fs.length ≤ 100 ∧ D.nx σ (upd H2 dx (XD dx ((f, y) :: fs)))))
/-- self.f = value -/
theorem ps_fldX {o value : Expr} {f : Str} {pos pos' : Pos} {ta tv : TE} (ha : PE X o ta) (hv : PE X value tv) (hs : swapsWith value (some (.Attribute o f pos')) pos.line X.env = pure false := by rfl) : PS X (.Assign [.Attribute o f pos'] value pos) (sFldX X.K ta tv f) := by
  intro pins s σ H D I h
  refine plainObj_wpAny_Assign_Attribute (thn (hv pins s σ H _ I h) fun u s1 ⟨y, H1, I1, ry, q⟩ => thn (ha pins s1 σ H1 _ I1 q) fun ov s2 ⟨x, H2, I2, rx, a, C, ex, F, alt⟩ => ?_) hs
  subst ex
  obtain rfl : ov = Value.ref a := rx
  rcases alt with ⟨hx, q⟩ | ⟨dx, fs, hx, hd, hlen, q⟩
  · obtain ⟨t0, ht0⟩ := (I2.hok a _ hx).1
    refine PySem.W.setX_first I2.kIn ht0 rfl rfl rfl F.st F.pl F.tk fun h' keep e' n t' => ?_
    have hm : (s2.heap.update a fun o => { o with dict := some s2.heap.objs.size }).get? a = some { cls := .ref C, dict := some s2.heap.objs.size, data := .fields #[.ref t0, .none, .none, .none, .bool false, .none] } := Heap.get?_update_self _ ht0 rfl
    have J1 := I2.write (h' := s2.heap.update a fun o => { o with dict := some s2.heap.objs.size }) (x := a) (e := a) (o := XO a C (some s2.heap.objs.size)) (t' := t') (by rw [hx]; trivial) (.inl rfl) (fun b u' ne e => by rw [Heap.get?_update_other _ _ (Ne.symm ne)]; exact e) ⟨_, hm⟩ (xo_ok ⟨_, hm⟩)
    have hf := I2.hok.fresh (Nat.le_refl s2.heap.objs.size)
    have J2 := J1.laid (h' := h') (a := s2.heap.objs.size) (o := XD s2.heap.objs.size [(f, y)]) (t' := t') (fun b u' e => ?_) (by show (s2.heap.update a _).objs.size ≤ _; rw [Heap.size_update]; exact Nat.le_refl _) (xd_ok n (relO_cons (fs := []) (fun g => trivial) ry) (PySem.Within.cons f u PySem.Within.nil))
    · exact ⟨σ, _, J2, q _ hf (fun z => by rw [z, hx] at hf; cases hf)⟩
    · by_cases hb : b = a
      · subst hb
        have e2 := hm.symm.trans e
        cases e2
        exact e'
      · refine keep b u' hb ?_
        have e2 : (s2.heap.update a fun o => { o with dict := some s2.heap.objs.size }).get? b = some u' := e
        rw [Heap.get?_update_other _ _ (Ne.symm hb)] at e2
        exact e2
  · obtain ⟨t0, ht0⟩ := (I2.hok a _ hx).1
    obtain ⟨mA, n0, r0, w0⟩ := (I2.hok dx _ hd).1
    refine PySem.W.setX_more I2.kIn ht0 rfl rfl rfl n0 F.st F.pl F.tk w0 (by rw [List.length_map]; exact small1000 (by omega)) fun h' keep n t' => ?_
    have J := I2.write (x := dx) (e := dx) (o := XD dx ((f, y) :: fs)) (t' := t') (by rw [hd]; trivial) (.inl rfl) (fun b u ne e => by rw [keep b ne]; exact e) (by obtain ⟨o, es, ep, e, _⟩ := n; exact ⟨o, e⟩) (xd_ok n ?_ ?_)
    · exact ⟨σ, _, J, q⟩
    · exact relO_cons r0 ry
    · exact PySem.Within.cons f u w0
/-- what a class of exceptions must have for its names to be read -/
structure RdX (K : PySem.W.Frag) (C : Addr) (f : Str) : Prop where
  pl : PySem.W.plainX K C = true
  ga : PySem.W.findIn K (.ref C) "__getattribute__" = some (some (.builtin "BaseException.__getattribute__"))
  gt : PySem.W.findIn K (.ref C) "__getattr__" = some none
  na : PySem.W.findIn K (.ref C) f = some none
noncomputable def tFldX (K : PySem.W.Frag) (ta : TE) (f : Str) : TE := fun σ H Q => ta σ H fun x H1 => ∃ a C dx fs v, x = .ref a ∧ H1 a = some (XO a C (some dx)) ∧ H1 dx = some (XD dx fs) ∧ RdX K C f ∧ fs.lookup f = some v ∧ Q v H1
theorem pe_fldX {e : Expr} {f : Str} {pos : Pos} {ta : TE} (he : PE X e ta) (hb : attributeBase e f X.env (eval e X.env) = eval e X.env := by rfl) : PE X (.Attribute e f pos) (tFldX X.K ta f) := by
  intro pins s σ H Q I h
  refine attr_of hb (thn (he pins s σ H _ I h) fun u s1 ⟨x, H1, I1, rx, a, C, dx, fs, v, ex, hx, hd, R, l, q⟩ => ?_)
  subst ex
  obtain rfl : u = Value.ref a := rx
  obtain ⟨t0, ht0⟩ := (I1.hok a _ hx).1
  obtain ⟨mA, n0, r0, w0⟩ := (I1.hok dx _ hd).1
  obtain ⟨u', hu, ru⟩ := RelO.some_of (v := v) (o := mA f) (by rw [← l]; exact r0 f)
  obtain ⟨hp, g, d, tk, os⟩ := s1
  exact PySem.W.getX I1.kIn ht0 rfl rfl rfl n0 hu R.pl R.ga R.gt R.na (PySem.W.handedOut_of (handed_of ru)) ⟨v, H1, I1.tok _, ru, q⟩
/-- isinstance(e, c) of an exception with names of its own -/
noncomputable def rIsxO (K : PySem.W.Frag) : List V → Hp → VK → Prop := fun xs H Q => ∃ x C dd c cv b, xs = [.ref x, c] ∧ H x = some (XO x C dd) ∧ ExcA K C ∧ RelV c cv ∧ (∀ u, RelV c u → u = cv) ∧ PySem.W.kitOne K (.ref C) cv = some b ∧ Q (.bl b) H
theorem call_isxO : CallR X (.builtin "isinstance") (rIsxO X.K) := by
  intro pins s σ H xs us Q I rs h
  obtain ⟨x, C, dd, c, cv, b, rfl, hx, Z, rc, uc, e, q⟩ := h
  obtain ⟨u1, u2, rfl, r1, r2⟩ := vals2 rs
  cases r1
  obtain rfl := uc u2 r2
  have p : ∃ o, s.heap.get? x = some o ∧ o.cls = .ref C := by
    obtain ⟨t0, ht0⟩ := (I.hok x _ hx).1
    exact ⟨_, ht0, rfl⟩
  exact PySem.W.kia_one (kitx_exc Z) I.kIn p e (fun z => nomatch z) fun tk => ⟨.bl b, H, I.tok _, rfl, q⟩
end
end L2
namespace L2
open PySem PySem.Spec PyProof.Rows LM
/-- an exception of the class C, whichever way it is held -/
noncomputable def IsX (H : Hp) (x C : Addr) : Prop := H x = some (ExO x C) ∨ ∃ dd, H x = some (XO x C dd)
theorem IsX.same {H H' : Hp} {x C : Addr} (s : Same H H') (h : IsX H x C) : IsX H' x C := h.elim (fun e => .inl (s _ _ e)) fun ⟨d, e⟩ => .inr ⟨d, s _ _ e⟩
noncomputable def rIsxE (K : PySem.W.Frag) : List V → Hp → VK → Prop := fun xs H Q => ∃ x C c cv b, xs = [.ref x, c] ∧ IsX H x C ∧ ExcA K C ∧ RelV c cv ∧ (∀ u, RelV c u → u = cv) ∧ PySem.W.kitOne K (.ref C) cv = some b ∧ Q (.bl b) H
theorem call_isxE {X : Cx} : CallR X (.builtin "isinstance") (rIsxE X.K) := by
  intro pins s σ H xs us Q I rs h
  obtain ⟨x, C, c, cv, b, rfl, hx, r⟩ := h
  rcases hx with hx | ⟨dd, hx⟩
  · exact call_isx pins s σ H _ us Q I rs ⟨x, C, c, cv, b, rfl, hx, r⟩
  · exact call_isxO pins s σ H _ us Q I rs ⟨x, C, dd, c, cv, b, rfl, hx, r⟩
/-- the class that a name stands for -/
structure ClsN (mg : Str → Option Value) (x : Str) (C : Addr) : Prop where
  mg : mg x = some (.ref C)
theorem clsV_eqN {mg : Str → Option Value} {x : Str} {C : Addr} (Z : ClsN mg x C) : clsV mg x = .ref C := by
  unfold clsV
  rw [Z.mg]
  rfl
theorem ExcCl.n {K : PySem.W.Frag} {mg : Str → Option Value} {x : Str} {C : Addr} (Z : ExcCl K mg x C) : ClsN mg x C := ⟨Z.mg⟩
/-- what an __init__ with one, with two names promises -/
noncomputable def spX1 (C : Addr) (f : Str) : Sp := fun vs H Q _ => ∃ x tv v, vs = [.ref x, tv, v] ∧ H x = some (XO x C none) ∧ ∀ dx, H dx = none → dx ≠ x → Q .non (upd (upd H x (XO x C (some dx))) dx (XD dx [(f, v)]))
noncomputable def spX2 (C : Addr) (f g : Str) : Sp := fun vs H Q _ => ∃ x tv v u, vs = [.ref x, tv, v, u] ∧ H x = some (XO x C none) ∧ ∀ dx, H dx = none → dx ≠ x → Q .non (upd (upd H x (XO x C (some dx))) dx (XD dx [(g, u), (f, v)]))
section
variable {P : Program} {w : World} {K : PySem.W.Frag} {mg : Str → Option Value} {base : Heap}
structure TxX (K : PySem.W.Frag) (mg : Str → Option Value) (c : Str) (C : Addr) (st : Stmt) (ps : List Str) (qual : Str) : Prop where
  ex : ∃ f fd, ExcI K mg c C f ∧ Fun K "__init__" qual st f fd ∧ Binds K fd ps []
structure DfX (P : Program) (w : World) (K : PySem.W.Frag) (mg : Str → Option Value) (base : Heap) (k : Nat) (c : Str) (C : Addr) (ps : List Str) (sp : Sp) : Prop where
  ex : ∃ f fd, ExcI K mg c C f ∧ FnOk P w K mg base CX0 k f fd ps sp ∧ Binds K fd ps []
theorem TxX.df {c qual : Str} {C : Addr} {st : Stmt} {N ps : List Str} {k : Nat} {sp : Sp} (T : TxX K mg c C st ps qual) (S : FnScope N ps (defScope st)) (len : ∀ vs H Q E, sp vs H Q E → vs.length = ps.length)
    (hbody : ∀ (f : Addr) (cdv : Value) (A : Around) (outer : List Env) (s : Shared) (H : Hp) (vs : List V) (Q : VK) (E : XK), ExcI K mg c C f → Room k (A.deeper (envOfC qual (defScope st) s.heap.objs.size f cdv)) → sp vs H Q E →
      ∃ t, PSs (cxOf CX0 P w K mg base N qual (defScope st) f cdv A outer s H E).nox (defBody st) t ∧ t { nx := fun _ H' => Q .non H', rt := Q } (start N vs) H) : DfX P w K mg base (k + 1) c C ps sp := by
  obtain ⟨f, fd, M, F, b⟩ := T.ex
  exact ⟨f, fd, M, F.ok S len fun cdv A outer s H vs Q E hr h => hbody f cdv A outer s H vs Q E M hr h, b⟩
theorem txX_mk {h : Heap} {c qual : Str} {C f : Addr} {st : Stmt} {ps : List Str} {oc : Value} {od an : Option Addr} {osl : Array (Option Value)} {kV doc pm cdv ct : Value} (X : K.In h) (G : h.Ns mainGlobals mg)
    (a : PySem.W.nsIn K mainGlobals c = some (some (.ref C))) (fi : PySem.W.findIn K (.ref C) "__init__" = some (some (.ref f))) (fn : PySem.W.isFn K (.ref f) = true) (kp : PySem.W.keepIn K (.ref C) = true)
    (l : K.lookup f = some ⟨oc, od, .func (PySem.W.fnOf "__init__" qual (defArgs st) (defBody st) (defScope st) .none kV doc pm an cdv ct), osl⟩)
    (cd : PySem.W.codeIn K cdv qual = true) (k : PySem.W.keepIn K (.ref f) = true) (ok : PySem.W.excInI K C PySem.W.vErr4 "ValueError.__new__" f = true)
    (hb : ∀ (kV doc pm : Value) (an : Option Addr) (cdv ct : Value) (us : List Value), us.length = ps.length → bindArgs (PySem.W.fnOf "__init__" qual (defArgs st) (defBody st) (defScope st) .none kV doc pm an cdv ct) ⟨us, []⟩ = pure (ps.zip us)) : TxX K mg c C st ps qual :=
  ⟨f, _, ⟨PySem.W.mg_of X G a, ok, fn, kp⟩, fun_mk l cd k, (fun_mk l cd k).binds hb⟩
theorem clsI_mk {h : Heap} {c : Str} {L : Addr} (X : K.In h) (G : h.Ns mainGlobals mg) (a : PySem.W.nsIn K mainGlobals c = some (some (.ref L))) (rd : PySem.W.readsIn K L (.type "type") = true)
    (sp : PySem.W.specialIn K (.ref L) "__getattribute__" = some (some (.builtin "type.__getattribute__"))) (fc : PySem.W.findCls K (.ref L) (.type "type") "__init__" = some (.val (.builtin "ValueError.__init__"))) : ClsI K mg c L := ⟨PySem.W.mg_of X G a, rd, sp, fc⟩
theorem clsN_mk {h : Heap} {c : Str} {C : Addr} (X : K.In h) (G : h.Ns mainGlobals mg) (a : PySem.W.nsIn K mainGlobals c = some (some (.ref C))) : ClsN mg c C := ⟨PySem.W.mg_of X G a⟩
end
section
variable {X : Cx}
/-- C(..) of a class of exceptions with an __init__ -/
theorem pe_dfX {j k : Nat} {c : Str} {C : Addr} {ps : List Str} {sp : Sp} {np pos : Pos} {e : Expr} {es : List Expr} {t : TA} (D : DfX X.prog X.w X.K X.mg X.base j c C ps sp) (hr : Room k X.A) (ha : PA X (e :: es) t) (hg : Gl X c := by rfl) (hj : j + 1 ≤ k := by decide) (hex : X.ex = [] := by rfl)
    (hdb : (c == ("__debug__" : Str)) = false := by decide) (he : starEach (e :: es) X.env = (false, eval e X.env) :: starEach es X.env := by rfl) (hpl : (backTo pos (starEach es X.env)).any (·.1) = false := by rfl) :
    PE X (.Call (.Name c np) (e :: es) [] pos) (tMakeX C sp E0 t) := by
  obtain ⟨f, fd, M, F, b⟩ := D.ex
  exact pe_excI M F (hr.mono hj) b pass0 ha hg hex hdb he hpl
/-- f() of a def without parameters -/
theorem pe_df0 {j k : Nat} {x : Str} {sp : Sp} {p pos : Pos} (D : Df X.prog X.w X.K X.mg X.base j x [] sp) (hr : Room k X.A) (hg : Gl X x := by rfl) (hj : j ≤ k := by decide)
    (hdb : (x == ("__debug__" : Str)) = false := by decide) : PE X (.Call (.Name x p) [] [] pos) (tCF sp tNil) := by
  obtain ⟨f, fd, F, b, hm, kp⟩ := D.ex
  have h := pe_call0 (ds := []) (dvs := []) (E := E0) (p := p) (pos := pos) F (hr.mono hj) hg hm kp b .nil pass0 hdb
  have e1 : tCall sp [] E0 tNil = tCF sp tNil := by
    funext σ H Q
    unfold tCall tCF
    simp only [List.append_nil]
  rw [e1] at h
  exact h
end
end L2
namespace L2
open PySem
noncomputable def clsBody (s : Stmt) : List Stmt := match s with
  | .ClassDef _ _ _ b _ _ _ _ _ _ _ => b
  | _ => []
end L2
namespace L2
theorem upd_at2 {H : Hp} {x dx : PySem.Addr} {o u : HO} (ne : dx ≠ x) : upd (upd H x o) dx u x = some o := by rw [upd_ne (Ne.symm ne), upd_same]
end L2
namespace L2
theorem ClsN.uniq {mg : PySem.Str → Option PySem.Value} {x : PySem.Str} {C C' : PySem.Addr} (h : ClsN mg x C) (h' : ClsN mg x C') : C = C' := PySem.Value.ref.inj (Option.some.inj (h.mg.symm.trans h'.mg))
end L2
namespace L2
open PySem PySem.Spec PyProof.Rows LM
noncomputable def lenOk : V → Bool
  | .int i => decide (1 ≤ i) && decide (i ≤ 8)
  | _ => false
/-- which of the fourteen an exception of the class C is -/
noncomputable def KindsB (K : PySem.W.Frag) (mg : Str → Option Value) (C : Addr) (bs : List Bool) : Prop := ∃ b0 b1 b2 b3 b4 b5 b6 b7 b8 b9 b10 b11 b12 b13, bs = [b0, b1, b2, b3, b4, b5, b6, b7, b8, b9, b10, b11, b12, b13] ∧ PySem.W.kitOne K (.ref C) (clsV mg "BadFloor") = some b0 ∧ PySem.W.kitOne K (.ref C) (clsV mg "BadCells") = some b1 ∧ PySem.W.kitOne K (.ref C) (clsV mg "BadFraction") = some b2 ∧ PySem.W.kitOne K (.ref C) (clsV mg "BadShares") = some b3 ∧ PySem.W.kitOne K (.ref C) (clsV mg "TooLittle") = some b4 ∧ PySem.W.kitOne K (.ref C) (clsV mg "TooFine") = some b5 ∧ PySem.W.kitOne K (.ref C) (clsV mg "BadPaper") = some b6 ∧ PySem.W.kitOne K (.ref C) (clsV mg "Falls") = some b7 ∧ PySem.W.kitOne K (.ref C) (clsV mg "Late") = some b8 ∧ PySem.W.kitOne K (.ref C) (clsV mg "Full") = some b9 ∧ PySem.W.kitOne K (.ref C) (clsV mg "OtherKnown") = some b10 ∧ PySem.W.kitOne K (.ref C) (clsV mg "NoText") = some b11 ∧ PySem.W.kitOne K (.ref C) (clsV mg "NoRow") = some b12 ∧ PySem.W.kitOne K (.ref C) (clsV mg "BadTerm") = some b13
noncomputable def only (i : Nat) : List Bool := (List.range 14).map fun j => decide (j = i)
/-- one of the fourteen, the i-th -/
noncomputable def KX (K : PySem.W.Frag) (mg : Str → Option Value) (H : Hp) (v : V) (i : Nat) : Prop := ∃ x C, v = .ref x ∧ IsX H x C ∧ ExcA K C ∧ PySem.W.kitOne K (.ref C) (clsV mg "LandError") = some true ∧ PySem.W.kitOne K (.ref C) (.type "ValueError") = some true ∧ KindsB K mg C (only i)
theorem eqv_bls (bs : List Bool) : PyData.eqv (.list (bs.map PyData.bool)) (.list (bs.map PyData.bool)) = true := SeqAt.eqv_refl _ (by
  induction bs with
  | nil => rfl
  | cons b bs ih => exact ih)
theorem lay_bls : ∀ (bs : List Bool), (PyData.list (bs.map PyData.bool)).canLay0 = true
  | [] => rfl
  | _ :: bs => lay_bls bs
theorem dep_bls : ∀ (bs : List Bool), PyData.depthAll (bs.map PyData.bool) = 0
  | [] => rfl
  | x :: l => by
    show max 0 (PyData.depthAll (l.map PyData.bool)) = 0
    rw [dep_bls l]
    rfl
theorem isDs_bls {K : PySem.W.Frag} {H : Hp} : ∀ (l : List Bool), IsDs K H (l.map PyData.bool) (l.map V.bl)
  | [] => .nil
  | _ :: l => .cons (.bl _) (isDs_bls l)
end L2
namespace L2
open PySem
theorem kclN {K : PySem.W.Frag} {mg : Str → Option Value} {x : Str} {D : Addr} {c : Value} {b : Bool} (Z : ClsN mg x D) (k : PySem.W.kitOne K c (.ref D) = some b) : PySem.W.kitOne K c (clsV mg x) = some b := by
  rw [clsV_eqN Z]; exact k
theorem kcl {K : PySem.W.Frag} {mg : Str → Option Value} {x : Str} {D : Addr} {c : Value} {b : Bool} (Z : ExcCl K mg x D) (k : PySem.W.kitOne K c (.ref D) = some b) : PySem.W.kitOne K c (clsV mg x) = some b := kclN Z.n k
end L2
namespace L2
open PySem PySem.Spec PyProof.Rows LM
-- plain things: no lists, no truths
end L2
namespace My
open PySem L2 LM PyProof.Rows
noncomputable def top (i : Nat) : Stmt := PySem.Challenge.pw_landroll_k01_no_floor_no_cells.main.body.getD i (.Pass ⟨0, 0, 0, 0⟩)
noncomputable abbrev s_is_number : Stmt := top 18
noncomputable abbrev s_law_cell_at : Stmt := top 24
noncomputable abbrev s_law_whole : Stmt := top 25
noncomputable abbrev s_law_thing : Stmt := top 26
noncomputable abbrev s_law_kinds : Stmt := top 27
noncomputable abbrev s_is_length : Stmt := top 19
noncomputable abbrev s_is_cell : Stmt := top 21
noncomputable abbrev s_floor_of : Stmt := top 20
noncomputable abbrev s_cells_of : Stmt := top 22
noncomputable abbrev s_law_fields : Stmt := top 28
noncomputable abbrev s_law_classes : Stmt := top 29
noncomputable abbrev s_law_floor : Stmt := top 30
noncomputable abbrev s_law_floor_by_any : Stmt := top 31
noncomputable abbrev s_law_cells : Stmt := top 32
noncomputable abbrev s_law_cells_by_any : Stmt := top 33
noncomputable abbrev s_law : Stmt := top 34
section
variable {P : Program} {w : World} {K : PySem.W.Frag} {mg : Str → Option Value} {base : Heap}
noncomputable abbrev i_BadPaper : Stmt := (clsBody (top 14)).getD 0 (.Pass ⟨0, 0, 0, 0⟩)
theorem scI_BadPaper : FnScope ["self", "text", "place"] ["self", "text", "place"] (defScope i_BadPaper) := ⟨rfl, rfl, rfl, by decide +kernel, rfl, by decide +kernel, by decide +kernel⟩
theorem okI_BadPaper {C_BadPaper C_LandError : Addr} (T : TxX K mg "BadPaper" C_BadPaper i_BadPaper ["self", "text", "place"] "BadPaper.__init__") (l_LandError : ClsI K mg "LandError" C_LandError) (w_BadPaper_place : FldX K C_BadPaper "place") : DfX P w K mg base 1 "BadPaper" C_BadPaper ["self", "text", "place"] (spX1 C_BadPaper "place") := by
  refine T.df scI_BadPaper (fun vs H Q E h => ?_) (fun f cdv A outer s H vs Q E M hr h => ?_)
  · obtain ⟨x, tv, v0, rfl, hx, q⟩ := h
    rfl
  · obtain ⟨x, tv, v0, rfl, hx, q⟩ := h
    refine ⟨_, (pss_cons (ps_expr (pe_initX l_LandError (pa_cons (pv 0) (pa_cons (pv 1) pa_nil))))
      (pss_one (ps_fldX (pv 0) (pv 2)))), ?_⟩
    refine ⟨_, rfl, _, rfl, x, C_BadPaper, f, [tv], rfl, len_ok rfl, hx, M.ok, _, rfl, _, rfl, x, C_BadPaper, rfl, w_BadPaper_place, .inl ⟨hx, fun dx hd ne => q dx hd ne⟩⟩
noncomputable abbrev i_Falls : Stmt := (clsBody (top 15)).getD 0 (.Pass ⟨0, 0, 0, 0⟩)
theorem scI_Falls : FnScope ["self", "text", "word", "who"] ["self", "text", "word", "who"] (defScope i_Falls) := ⟨rfl, rfl, rfl, by decide +kernel, rfl, by decide +kernel, by decide +kernel⟩
theorem okI_Falls {C_Falls C_LandError : Addr} (T : TxX K mg "Falls" C_Falls i_Falls ["self", "text", "word", "who"] "Falls.__init__") (l_LandError : ClsI K mg "LandError" C_LandError) (w_Falls_word : FldX K C_Falls "word") (w_Falls_who : FldX K C_Falls "who") : DfX P w K mg base 1 "Falls" C_Falls ["self", "text", "word", "who"] (spX2 C_Falls "word" "who") := by
  refine T.df scI_Falls (fun vs H Q E h => ?_) (fun f cdv A outer s H vs Q E M hr h => ?_)
  · obtain ⟨x, tv, v0, v1, rfl, hx, q⟩ := h
    rfl
  · obtain ⟨x, tv, v0, v1, rfl, hx, q⟩ := h
    refine ⟨_, (pss_cons (ps_expr (pe_initX l_LandError (pa_cons (pv 0) (pa_cons (pv 1) pa_nil))))
      (pss_cons (ps_fldX (pv 0) (pv 2))
      (pss_one (ps_fldX (pv 0) (pv 3))))), ?_⟩
    refine ⟨_, rfl, _, rfl, x, C_Falls, f, [tv], rfl, len_ok rfl, hx, M.ok, _, rfl, _, rfl, x, C_Falls, rfl, w_Falls_word, .inl ⟨hx, fun dx hd ne => ⟨_, rfl, _, rfl, x, C_Falls, rfl, w_Falls_who, .inr ⟨dx, _, upd_at2 ne, upd_same, (by decide : (1 : Nat) ≤ 100), by rw [upd_upd]; exact q dx hd ne⟩⟩⟩⟩
noncomputable def sp_is_number (K : PySem.W.Frag) : Sp := fun vs H Q _ => ∃ (x : V) (n : String), vs = [x] ∧ TyOf K H x (.type n) ∧ Q (.bl (isI x)) H
theorem sc_is_number : FnScope ["thing"] ["thing"] (defScope s_is_number) := ⟨rfl, rfl, rfl, by decide +kernel, rfl, by decide +kernel, by decide +kernel⟩
set_option maxHeartbeats 4000000 in
theorem ok_is_number (T : Tx K mg "is_number" s_is_number ["thing"]) (B : Bn mg) : Df P w K mg base 1 "is_number" ["thing"] (sp_is_number K) := by
  refine T.df sc_is_number (fun vs H Q E h => ?_) (fun f cdv A outer s H vs Q E hr h => ?_)
  · obtain ⟨x, n, rfl, ty, q⟩ := h
    rfl
  · obtain ⟨x, n, rfl, ty, q⟩ := h
    refine ⟨_, (pss_one (ps_ret (pe_and (pe_callB call_isi (by rfl) B.isinstance boot_isinstance (pa_cons (pv 0) (pa_cons (pe_bltn (x := "int") (v := .ty "int") (by rfl) B.int boot_int rfl) pa_nil))) (pe_one (pe_not (pe_callB call_isi (by rfl) B.isinstance boot_isinstance (pa_cons (pv 0) (pa_cons (pe_bltn (x := "bool") (v := .ty "bool") (by rfl) B.bool boot_bool rfl) pa_nil)))))))), ?_⟩
    have k1 := kit_int K ty
    have k2 := kit_bool K ty
    refine ⟨_, rfl, _, _, _, _, rfl, ty, k1, _, rfl, ?_⟩
    refine ite2 (fun h1 => ?_) (fun h1 => ?_)
    · refine ⟨_, rfl, _, _, _, _, rfl, ty, k2, _, rfl, ?_⟩
      cases x <;> simp_all [isI, isB]
    · cases x <;> simp_all [isI, isB]
noncomputable def sp_law_cell_at (K : PySem.W.Frag) : Sp := fun vs H Q _ => ∃ (a : Addr) (ns : List Int) (k : Nat), vs = [.ref a, .int k] ∧ SqL K H a (ns.map V.int) ∧ Q (.int (ns.getD k 0)) H
theorem sc_law_cell_at : FnScope ["_law_script", "_law_k"] ["_law_script", "_law_k"] (defScope s_law_cell_at) := ⟨rfl, rfl, rfl, by decide +kernel, rfl, by decide +kernel, by decide +kernel⟩
set_option maxHeartbeats 4000000 in
theorem ok_law_cell_at (T : Tx K mg "_law_cell_at" s_law_cell_at ["_law_script", "_law_k"]) (B : Bn mg) : Df P w K mg base 1 "_law_cell_at" ["_law_script", "_law_k"] (sp_law_cell_at K) := by
  refine T.df sc_law_cell_at (fun vs H Q E h => ?_) (fun f cdv A outer s H vs Q E hr h => ?_)
  · obtain ⟨a, ns, k, rfl, hS, q⟩ := h
    rfl
  · obtain ⟨a, ns, k, rfl, hS, q⟩ := h
    refine ⟨_, (pss_cons (ps_if (pt_cmpR op_lt (pv 1) (pe_callB call_len_seq (by rfl) B.len PySem.boot_len (pa_cons (pv 0) pa_nil)) (nomark _)) (pss_one (ps_ret (pe_ix ix_list (pv 0) (pv 1) (fun _ _ => rfl)))) pss_nil)
      (pss_one (ps_ret pe_int))), ?_⟩
    refine ⟨_, rfl, _, rfl, a, _, rfl, .inl hS, _, _, rfl, rfl, _, rfl, ?_⟩
    refine ite2 (fun h1 => ?_) (fun h1 => ?_)
    · have h1' : k < ns.length := by
        have := of_decide_eq_true h1
        rw [List.length_map] at this
        omega
      refine ⟨_, rfl, _, rfl, a, _, _, _, rfl, rfl, hS, atI_nat (show (ns.map V.int)[k]? = some (.int (ns.getD k 0)) by simp [h1', List.getD]), q⟩
    · have h1' : ¬ k < ns.length := fun z => h1 (by
        rw [decide_eq_true_eq, List.length_map]
        omega)
      have e : ns.getD k 0 = 0 := by simp [List.getD, Nat.le_of_not_lt h1']
      rw [e] at q
      exact q
noncomputable def sp_law_whole (K : PySem.W.Frag) : Sp := fun vs H Q _ => ∃ (x : V) (n : String), vs = [x] ∧ TyOf K H x (.type n) ∧ Q (.bl (isI x)) H
theorem sc_law_whole : FnScope ["_law_found"] ["_law_found"] (defScope s_law_whole) := ⟨rfl, rfl, rfl, by decide +kernel, rfl, by decide +kernel, by decide +kernel⟩
set_option maxHeartbeats 4000000 in
theorem ok_law_whole (T : Tx K mg "_law_whole" s_law_whole ["_law_found"]) (B : Bn mg) : Df P w K mg base 1 "_law_whole" ["_law_found"] (sp_law_whole K) := by
  refine T.df sc_law_whole (fun vs H Q E h => ?_) (fun f cdv A outer s H vs Q E hr h => ?_)
  · obtain ⟨x, n, rfl, ty, q⟩ := h
    rfl
  · obtain ⟨x, n, rfl, ty, q⟩ := h
    refine ⟨_, (pss_one (ps_ret (pe_and (pe_callB call_isi (by rfl) B.isinstance boot_isinstance (pa_cons (pv 0) (pa_cons (pe_bltn (x := "int") (v := .ty "int") (by rfl) B.int boot_int rfl) pa_nil))) (pe_one (pe_not (pe_callB call_isi (by rfl) B.isinstance boot_isinstance (pa_cons (pv 0) (pa_cons (pe_bltn (x := "bool") (v := .ty "bool") (by rfl) B.bool boot_bool rfl) pa_nil)))))))), ?_⟩
    have k1 := kit_int K ty
    have k2 := kit_bool K ty
    refine ⟨_, rfl, _, _, _, _, rfl, ty, k1, _, rfl, ?_⟩
    refine ite2 (fun h1 => ?_) (fun h1 => ?_)
    · refine ⟨_, rfl, _, _, _, _, rfl, ty, k2, _, rfl, ?_⟩
      cases x <;> simp_all [isI, isB]
    · cases x <;> simp_all [isI, isB]
noncomputable def sp_law_thing (K : PySem.W.Frag) : Sp := fun vs H Q _ => ∃ c : Int, vs = [.int c] ∧ ∀ (v : V) (n : String) (H' : Hp), Same H H' → TyOf K H' v (.type n) → Q v H'
theorem sc_law_thing : FnScope ["_law_cell", "_law_way", "_law_rest"] ["_law_cell"] (defScope s_law_thing) := ⟨rfl, rfl, rfl, by decide +kernel, rfl, by decide +kernel, by decide +kernel⟩
set_option maxHeartbeats 4000000 in
theorem ok_law_thing (T : Tx K mg "_law_thing" s_law_thing ["_law_cell"]) (B : Bn mg) : Df P w K mg base 1 "_law_thing" ["_law_cell"] (sp_law_thing K) := by
  refine T.df sc_law_thing (fun vs H Q E h => ?_) (fun f cdv A outer s H vs Q E hr h => ?_)
  · obtain ⟨c, rfl, q⟩ := h
    rfl
  · obtain ⟨c, rfl, q⟩ := h
    refine ⟨_, (@pss_cons _ _ _ _ _ (@ps_set _ _ 1 _ _ _ _ sc_law_thing.nd rfl (by first | exact Or.inl rfl | exact Or.inr rfl) (pe_op op_mod (pv 0) pe_int) rfl (by first | exact .inl rfl | exact .inr rfl))
      (@pss_cons _ _ _ _ _ (@ps_set _ _ 2 _ _ _ _ sc_law_thing.nd rfl (by first | exact Or.inl rfl | exact Or.inr rfl) (pe_op op_fdiv (pv 0) pe_int) rfl (by first | exact .inl rfl | exact .inr rfl))
      (@pss_cons _ _ _ _ _ (ps_if (pt_cmpR op_eq (pv 1) pe_int (nomark _)) (@pss_one _ _ _ (@ps_ret _ _ _ _ (@pe_ix _ _ _ _ _ _ _ ix_list (@pe_lst _ _ _ _ (@pa_cons _ _ _ _ _ pe_non (@pa_cons _ _ _ _ _ pe_bl (@pa_cons _ _ _ _ _ pe_bl (@pa_cons _ _ _ _ _ pe_str (@pa_cons _ _ _ _ _ pe_str (@pa_cons _ _ _ _ _ (@pe_lst _ _ _ _ (@pa_cons _ _ _ _ _ pe_int pa_nil rfl)) (@pa_cons _ _ _ _ _ (@pe_tup _ _ _ _ _ (@pa_cons _ _ _ _ _ pe_int (@pa_cons _ _ _ _ _ pe_int pa_nil rfl) rfl)) (@pa_cons _ _ _ _ _ (@pe_lst _ _ _ _ pa_nil) pa_nil rfl) rfl) rfl) rfl) rfl) rfl) rfl) rfl)) (pe_op op_mod (pv 2) pe_int) (fun _ _ => rfl)))) pss_nil)
      (@pss_cons _ _ _ _ _ (ps_if (pt_cmpR op_eq (pv 1) pe_int (nomark _)) (@pss_one _ _ _ (@ps_ret _ _ _ _ (@pe_ix _ _ _ _ _ _ _ ix_list (@pe_lst _ _ _ _ (@pa_cons _ _ _ _ _ (pe_op op_mod (pv 2) (pe_op op_pow pe_int pe_int)) (@pa_cons _ _ _ _ _ (pe_op op_sub (pe_un un_neg pe_int) (pe_op op_mod (pv 2) (pe_op op_pow pe_int pe_int))) pa_nil rfl) rfl)) (pe_op op_mod (pv 2) pe_int) (fun _ _ => rfl)))) pss_nil)
      (@pss_cons _ _ _ _ _ (ps_if (pt_cmpR op_eq (pv 1) pe_int (nomark _)) (@pss_one _ _ _ (@ps_ret _ _ _ _ (pe_op op_add pe_int (pe_op op_mod (pv 2) pe_int)))) pss_nil)
      (@pss_one _ _ _ (@ps_ret _ _ _ _ (pe_op op_sub (pe_op op_mod (pv 2) pe_int) pe_int)))))))), ?_⟩
    have D3 : ∀ n : Int, True := fun _ => trivial
    refine ⟨_, rfl, _, _, rfl, rfl, (by show (0 : Int) < _; decide), _, rfl, _, _, rfl, rfl, ⟨by decide, by decide⟩, ?_⟩
    refine ⟨_, rfl, rfl, _, rfl, ite2 (fun h => ?_) (fun h => ?_)⟩
    · refine ⟨len_ok rfl, fun l1 hl1 => ⟨len_ok rfl, fun l2 hl2 => ⟨len_ok rfl, fun l3 hl3 => ⟨len_ok rfl, fun l4 hl4 => ?_⟩⟩⟩⟩
      have s1 := Same.upd (o := .lst [.int 3]) hl1
      have s2 := Same.upd (o := .tup [.int 1, .int 2]) hl2
      have s3 := Same.upd (o := .lst []) hl3
      have s4 := Same.upd (o := .lst [V.non, V.bl true, V.bl false, V.str (Str.ofString "3"), V.str (Str.ofString ""), V.ref l1, V.ref l2, V.ref l3]) hl4
      have k1 := (s2.trans (s3.trans s4)) _ _ (upd_same (H := H) (a := l1) (o := .lst [.int 3]))
      have k2 := (s3.trans s4) _ _ (upd_same (H := upd H l1 (.lst [.int 3])) (a := l2) (o := .tup [.int 1, .int 2]))
      have k3 := s4 _ _ (upd_same (H := upd (upd H l1 (.lst [.int 3])) l2 (.tup [.int 1, .int 2])) (a := l3) (o := .lst []))
      have k4 := upd_same (H := upd (upd (upd H l1 (.lst [.int 3])) l2 (.tup [.int 1, .int 2])) l3 (.lst [])) (a := l4) (o := .lst [V.non, V.bl true, V.bl false, V.str (Str.ofString "3"), V.str (Str.ofString ""), V.ref l1, V.ref l2, V.ref l3])
      have s14 := s1.trans (s2.trans (s3.trans s4))
      generalize (upd (upd (upd (upd H l1 (.lst [.int 3])) l2 (.tup [.int 1, .int 2])) l3 (.lst [])) l4 (.lst [V.non, V.bl true, V.bl false, V.str (Str.ofString "3"), V.str (Str.ofString ""), V.ref l1, V.ref l2, V.ref l3])) = H4 at s4 k1 k2 k3 k4 s14 ⊢
      obtain ⟨v, n, hv, ty⟩ : ∃ v n, atI [V.non, V.bl true, V.bl false, V.str (Str.ofString "3"), V.str (Str.ofString ""), V.ref l1, V.ref l2, V.ref l3] (c / 4 % 8) = some v ∧ TyOf K H4 v (.type n) := by
        have c0 := Int.emod_nonneg (c / 4) (show (8 : Int) ≠ 0 by decide)
        have c1 := Int.emod_lt_of_pos (c / 4) (show (0 : Int) < 8 by decide)
        rcases (show c / 4 % 8 = 0 ∨ c / 4 % 8 = 1 ∨ c / 4 % 8 = 2 ∨ c / 4 % 8 = 3 ∨ c / 4 % 8 = 4 ∨ c / 4 % 8 = 5 ∨ c / 4 % 8 = 6 ∨ c / 4 % 8 = 7 by omega) with z | z | z | z | z | z | z | z
        · rw [z]; exact ⟨_, _, rfl, .non⟩
        · rw [z]; exact ⟨_, _, rfl, .bl _⟩
        · rw [z]; exact ⟨_, _, rfl, .bl _⟩
        · rw [z]; exact ⟨_, _, rfl, .str _⟩
        · rw [z]; exact ⟨_, _, rfl, .str _⟩
        · rw [z]; exact ⟨_, _, rfl, .lst k1⟩
        · rw [z]; exact ⟨_, _, rfl, .tup k2⟩
        · rw [z]; exact ⟨_, _, rfl, .lst k3⟩
      exact ⟨_, rfl, _, _, rfl, rfl, (by show (0 : Int) < _; decide), l4, _, _, _, rfl, rfl, SqL.of k4, hv, q v n H4 s14 ty⟩
    refine ⟨_, rfl, rfl, _, rfl, ite2 (fun h => ?_) (fun h => ?_)⟩
    · refine ⟨_, rfl, _, _, rfl, rfl, ⟨by decide, by decide, by decide⟩, _, _, rfl, rfl, (by show (0 : Int) < _; decide), ?_⟩
      refine ⟨_, rfl, _, rfl, _, _, rfl, rfl, ⟨by decide, by decide, by decide⟩, _, _, rfl, rfl, (by show (0 : Int) < _; decide), _, _, rfl, rfl, len_ok rfl, fun l4 hl4 => ?_⟩
      have s4 := Same.upd (o := .lst [.int (c / 4 % 10 ^ (60 : Int).toNat), .int (-1 - c / 4 % 10 ^ (60 : Int).toNat)]) hl4
      obtain ⟨v, hv⟩ : ∃ v : Int, atI [V.int (c / 4 % 10 ^ (60 : Int).toNat), V.int (-1 - c / 4 % 10 ^ (60 : Int).toNat)] (c / 4 % 2) = some (.int v) := by
        rcases (show c / 4 % 2 = 0 ∨ c / 4 % 2 = 1 by omega) with z | z
        · rw [z]; exact ⟨_, rfl⟩
        · rw [z]; exact ⟨_, rfl⟩
      exact ⟨_, rfl, _, _, rfl, rfl, (by show (0 : Int) < _; decide), l4, _, _, _, rfl, rfl, SqL.of upd_same, hv, q _ _ _ s4 (.int v)⟩
    refine ⟨_, rfl, rfl, _, rfl, ite2 (fun h => ?_) (fun h => ?_)⟩
    · exact ⟨_, rfl, _, _, rfl, rfl, (by show (0 : Int) < _; decide), _, _, rfl, rfl, q _ _ _ (Same.refl _) (.int _)⟩
    · exact ⟨_, rfl, _, _, rfl, rfl, (by show (0 : Int) < _; decide), _, _, rfl, rfl, q _ _ _ (Same.refl _) (.int _)⟩
noncomputable def sp_law_kinds (K : PySem.W.Frag) (mg : Str → Option Value) : Sp := fun vs H Q _ => ∃ (x C : Addr) (bs : List Bool), vs = [.ref x] ∧ IsX H x C ∧ ExcA K C ∧ KindsB K mg C bs ∧ ∀ l H', Same H H' → H' l = some (.lst (bs.map V.bl)) → Q (.ref l) H'
theorem sc_law_kinds : FnScope ["_law_e", "_law_told"] ["_law_e"] (defScope s_law_kinds) := ⟨rfl, rfl, rfl, by decide +kernel, rfl, by decide +kernel, by decide +kernel⟩
set_option maxHeartbeats 4000000 in
theorem ok_law_kinds {C_BadFloor : Addr} {C_BadTerm : Addr} {C_BadCells : Addr} {C_BadFraction : Addr} {C_BadShares : Addr} {C_TooLittle : Addr} {C_TooFine : Addr} {C_Late : Addr} {C_Full : Addr} {C_OtherKnown : Addr} {C_NoText : Addr} {C_NoRow : Addr} {C_BadPaper : Addr} {C_Falls : Addr} (T : Tx K mg "_law_kinds" s_law_kinds ["_law_e"]) (B : Bn mg) (z_BadFloor : ExcCl K mg "BadFloor" C_BadFloor) (z_BadTerm : ExcCl K mg "BadTerm" C_BadTerm) (z_BadCells : ExcCl K mg "BadCells" C_BadCells) (z_BadFraction : ExcCl K mg "BadFraction" C_BadFraction) (z_BadShares : ExcCl K mg "BadShares" C_BadShares) (z_TooLittle : ExcCl K mg "TooLittle" C_TooLittle) (z_TooFine : ExcCl K mg "TooFine" C_TooFine) (z_Late : ExcCl K mg "Late" C_Late) (z_Full : ExcCl K mg "Full" C_Full) (z_OtherKnown : ExcCl K mg "OtherKnown" C_OtherKnown) (z_NoText : ExcCl K mg "NoText" C_NoText) (z_NoRow : ExcCl K mg "NoRow" C_NoRow) (z_BadPaper : ClsN mg "BadPaper" C_BadPaper) (z_Falls : ClsN mg "Falls" C_Falls) : DfM P w K mg base 1 "_law_kinds" ["_law_e"] (sp_law_kinds K mg) := by
  refine T.dfM sc_law_kinds (fun vs H Q E h => ?_) (fun f cdv A outer s H vs Q E hr h => ?_)
  · obtain ⟨x, C, bs, rfl, hx, A, ⟨b0, b1, b2, b3, b4, b5, b6, b7, b8, b9, b10, b11, b12, b13, rfl, k0, k1, k2, k3, k4, k5, k6, k7, k8, k9, k10, k11, k12, k13⟩, q⟩ := h
    rfl
  · obtain ⟨x, C, bs, rfl, hx, A, ⟨b0, b1, b2, b3, b4, b5, b6, b7, b8, b9, b10, b11, b12, b13, rfl, k0, k1, k2, k3, k4, k5, k6, k7, k8, k9, k10, k11, k12, k13⟩, q⟩ := h
    refine ⟨_, (pss_cons (ps_set (i := 1) sc_law_kinds.nd rfl (by first | exact Or.inl rfl | exact Or.inr rfl) (pe_lst (pa_cons (pe_callB call_isxE (by rfl) B.isinstance boot_isinstance (pa_cons (pv 0) (pa_cons (pe_glob (v := .ref C_BadFloor) (by rfl) z_BadFloor.mg rfl) pa_nil))) (pa_cons (pe_callB call_isxE (by rfl) B.isinstance boot_isinstance (pa_cons (pv 0) (pa_cons (pe_glob (v := .ref C_BadCells) (by rfl) z_BadCells.mg rfl) pa_nil))) (pa_cons (pe_callB call_isxE (by rfl) B.isinstance boot_isinstance (pa_cons (pv 0) (pa_cons (pe_glob (v := .ref C_BadFraction) (by rfl) z_BadFraction.mg rfl) pa_nil))) (pa_cons (pe_callB call_isxE (by rfl) B.isinstance boot_isinstance (pa_cons (pv 0) (pa_cons (pe_glob (v := .ref C_BadShares) (by rfl) z_BadShares.mg rfl) pa_nil))) pa_nil))))))
      (pss_cons (ps_set (i := 1) sc_law_kinds.nd rfl (by first | exact Or.inl rfl | exact Or.inr rfl) (pe_op op_cat (pv 1) (pe_lst (pa_cons (pe_callB call_isxE (by rfl) B.isinstance boot_isinstance (pa_cons (pv 0) (pa_cons (pe_glob (v := .ref C_TooLittle) (by rfl) z_TooLittle.mg rfl) pa_nil))) (pa_cons (pe_callB call_isxE (by rfl) B.isinstance boot_isinstance (pa_cons (pv 0) (pa_cons (pe_glob (v := .ref C_TooFine) (by rfl) z_TooFine.mg rfl) pa_nil))) (pa_cons (pe_callB call_isxE (by rfl) B.isinstance boot_isinstance (pa_cons (pv 0) (pa_cons (pe_glob (v := .ref C_BadPaper) (by rfl) z_BadPaper.mg rfl) pa_nil))) (pa_cons (pe_callB call_isxE (by rfl) B.isinstance boot_isinstance (pa_cons (pv 0) (pa_cons (pe_glob (v := .ref C_Falls) (by rfl) z_Falls.mg rfl) pa_nil))) pa_nil)))))))
      (pss_cons (ps_set (i := 1) sc_law_kinds.nd rfl (by first | exact Or.inl rfl | exact Or.inr rfl) (pe_op op_cat (pv 1) (pe_lst (pa_cons (pe_callB call_isxE (by rfl) B.isinstance boot_isinstance (pa_cons (pv 0) (pa_cons (pe_glob (v := .ref C_Late) (by rfl) z_Late.mg rfl) pa_nil))) (pa_cons (pe_callB call_isxE (by rfl) B.isinstance boot_isinstance (pa_cons (pv 0) (pa_cons (pe_glob (v := .ref C_Full) (by rfl) z_Full.mg rfl) pa_nil))) (pa_cons (pe_callB call_isxE (by rfl) B.isinstance boot_isinstance (pa_cons (pv 0) (pa_cons (pe_glob (v := .ref C_OtherKnown) (by rfl) z_OtherKnown.mg rfl) pa_nil))) (pa_cons (pe_callB call_isxE (by rfl) B.isinstance boot_isinstance (pa_cons (pv 0) (pa_cons (pe_glob (v := .ref C_NoText) (by rfl) z_NoText.mg rfl) pa_nil))) pa_nil)))))))
      (pss_one (ps_ret (pe_op op_cat (pv 1) (pe_lst (pa_cons (pe_callB call_isxE (by rfl) B.isinstance boot_isinstance (pa_cons (pv 0) (pa_cons (pe_glob (v := .ref C_NoRow) (by rfl) z_NoRow.mg rfl) pa_nil))) (pa_cons (pe_callB call_isxE (by rfl) B.isinstance boot_isinstance (pa_cons (pv 0) (pa_cons (pe_glob (v := .ref C_BadTerm) (by rfl) z_BadTerm.mg rfl) pa_nil))) pa_nil))))))))), ?_⟩
    rw [clsV_eq z_BadFloor] at k0
    rw [clsV_eq z_BadCells] at k1
    rw [clsV_eq z_BadFraction] at k2
    rw [clsV_eq z_BadShares] at k3
    rw [clsV_eq z_TooLittle] at k4
    rw [clsV_eq z_TooFine] at k5
    rw [clsV_eqN z_BadPaper] at k6
    rw [clsV_eqN z_Falls] at k7
    rw [clsV_eq z_Late] at k8
    rw [clsV_eq z_Full] at k9
    rw [clsV_eq z_OtherKnown] at k10
    rw [clsV_eq z_NoText] at k11
    rw [clsV_eq z_NoRow] at k12
    rw [clsV_eq z_BadTerm] at k13

    refine ⟨_, rfl, x, C, .ref C_BadFloor, _, b0, rfl, hx, A, rfl, (fun _ h => h), k0, _, rfl, x, C, .ref C_BadCells, _, b1, rfl, hx, A, rfl, (fun _ h => h), k1, _, rfl, x, C, .ref C_BadFraction, _, b2, rfl, hx, A, rfl, (fun _ h => h), k2, _, rfl, x, C, .ref C_BadShares, _, b3, rfl, hx, A, rfl, (fun _ h => h), k3, len_ok rfl, fun l1 hl1 => ?_⟩
    have s1 := Same.upd (o := .lst [.bl b0, .bl b1, .bl b2, .bl b3]) hl1
    have e1 : (upd H l1 (.lst [.bl b0, .bl b1, .bl b2, .bl b3])) l1 = some (.lst [.bl b0, .bl b1, .bl b2, .bl b3]) := upd_same
    generalize (upd H l1 (.lst [.bl b0, .bl b1, .bl b2, .bl b3])) = H1 at s1 e1 ⊢
    refine ⟨_, rfl, _, rfl, x, C, .ref C_TooLittle, _, b4, rfl, hx.same s1, A, rfl, (fun _ h => h), k4, _, rfl, x, C, .ref C_TooFine, _, b5, rfl, hx.same s1, A, rfl, (fun _ h => h), k5, _, rfl, x, C, .ref C_BadPaper, _, b6, rfl, hx.same s1, A, rfl, (fun _ h => h), k6, _, rfl, x, C, .ref C_Falls, _, b7, rfl, hx.same s1, A, rfl, (fun _ h => h), k7, len_ok rfl, fun l2 hl2 => ?_⟩
    have s2 := Same.upd (o := .lst [.bl b4, .bl b5, .bl b6, .bl b7]) hl2
    refine ⟨l1, l2, _, _, rfl, rfl, s2 _ _ e1, upd_same, len_ok rfl, fun l3 hl3 => ?_⟩
    have s3 := Same.upd (o := .lst [.bl b0, .bl b1, .bl b2, .bl b3, .bl b4, .bl b5, .bl b6, .bl b7]) hl3
    have s23 := s1.trans (s2.trans s3)
    have e3 : (upd (upd H1 l2 (.lst [.bl b4, .bl b5, .bl b6, .bl b7])) l3 (.lst [.bl b0, .bl b1, .bl b2, .bl b3, .bl b4, .bl b5, .bl b6, .bl b7])) l3 = some (.lst [.bl b0, .bl b1, .bl b2, .bl b3, .bl b4, .bl b5, .bl b6, .bl b7]) := upd_same
    show tSeq _ _ _ _ (upd (upd H1 l2 (.lst [.bl b4, .bl b5, .bl b6, .bl b7])) l3 (.lst [.bl b0, .bl b1, .bl b2, .bl b3, .bl b4, .bl b5, .bl b6, .bl b7]))
    generalize (upd (upd H1 l2 (.lst [.bl b4, .bl b5, .bl b6, .bl b7])) l3 (.lst [.bl b0, .bl b1, .bl b2, .bl b3, .bl b4, .bl b5, .bl b6, .bl b7])) = H3 at s3 s23 e3 ⊢
    refine ⟨_, rfl, _, rfl, x, C, .ref C_Late, _, b8, rfl, hx.same s23, A, rfl, (fun _ h => h), k8, _, rfl, x, C, .ref C_Full, _, b9, rfl, hx.same s23, A, rfl, (fun _ h => h), k9, _, rfl, x, C, .ref C_OtherKnown, _, b10, rfl, hx.same s23, A, rfl, (fun _ h => h), k10, _, rfl, x, C, .ref C_NoText, _, b11, rfl, hx.same s23, A, rfl, (fun _ h => h), k11, len_ok rfl, fun l4 hl4 => ?_⟩
    have s4 := Same.upd (o := .lst [.bl b8, .bl b9, .bl b10, .bl b11]) hl4
    refine ⟨l3, l4, _, _, rfl, rfl, s4 _ _ e3, upd_same, len_ok rfl, fun l5 hl5 => ?_⟩
    have s5 := Same.upd (o := .lst [.bl b0, .bl b1, .bl b2, .bl b3, .bl b4, .bl b5, .bl b6, .bl b7, .bl b8, .bl b9, .bl b10, .bl b11]) hl5
    have s45 := s23.trans (s4.trans s5)
    have e5 : (upd (upd H3 l4 (.lst [.bl b8, .bl b9, .bl b10, .bl b11])) l5 (.lst [.bl b0, .bl b1, .bl b2, .bl b3, .bl b4, .bl b5, .bl b6, .bl b7, .bl b8, .bl b9, .bl b10, .bl b11])) l5 = some (.lst [.bl b0, .bl b1, .bl b2, .bl b3, .bl b4, .bl b5, .bl b6, .bl b7, .bl b8, .bl b9, .bl b10, .bl b11]) := upd_same
    show tSeq _ _ _ _ (upd (upd H3 l4 (.lst [.bl b8, .bl b9, .bl b10, .bl b11])) l5 (.lst [.bl b0, .bl b1, .bl b2, .bl b3, .bl b4, .bl b5, .bl b6, .bl b7, .bl b8, .bl b9, .bl b10, .bl b11]))
    generalize (upd (upd H3 l4 (.lst [.bl b8, .bl b9, .bl b10, .bl b11])) l5 (.lst [.bl b0, .bl b1, .bl b2, .bl b3, .bl b4, .bl b5, .bl b6, .bl b7, .bl b8, .bl b9, .bl b10, .bl b11])) = H5 at s5 s45 e5 ⊢
    refine ⟨_, rfl, _, rfl, x, C, .ref C_NoRow, _, b12, rfl, hx.same s45, A, rfl, (fun _ h => h), k12, _, rfl, x, C, .ref C_BadTerm, _, b13, rfl, hx.same s45, A, rfl, (fun _ h => h), k13, len_ok rfl, fun l6 hl6 => ?_⟩
    have s6 := Same.upd (o := .lst [.bl b12, .bl b13]) hl6
    refine ⟨l5, l6, _, _, rfl, rfl, s6 _ _ e5, upd_same, len_ok rfl, fun l7 hl7 => ?_⟩
    exact q l7 _ (s45.trans (s6.trans (Same.upd hl7))) upd_same
noncomputable def sp_is_length (K : PySem.W.Frag) : Sp := fun vs H Q _ => ∃ (x : V) (n : String), vs = [x] ∧ TyOf K H x (.type n) ∧ Q (.bl (lenOk x)) H
theorem sc_is_length : FnScope ["thing"] ["thing"] (defScope s_is_length) := ⟨rfl, rfl, rfl, by decide +kernel, rfl, by decide +kernel, by decide +kernel⟩
set_option maxHeartbeats 4000000 in
theorem ok_is_length (T : Tx K mg "is_length" s_is_length ["thing"]) (B : Bn mg) (d_is_number : Df P w K mg base 1 "is_number" ["thing"] (sp_is_number K)) (g_SIDE : ∃ t, mg "SIDE" = some (.int 8 t)) : Df P w K mg base 2 "is_length" ["thing"] (sp_is_length K) := by
  refine T.df sc_is_length (fun vs H Q E h => ?_) (fun f cdv A outer s H vs Q E hr h => ?_)
  · obtain ⟨x, n, rfl, ty, q⟩ := h
    rfl
  · obtain ⟨x, n, rfl, ty, q⟩ := h
    refine ⟨_, (pss_one (ps_ret (pe_and (pe_df d_is_number hr (pa_cons (pv 0) pa_nil)) (pe_one (pe_chain op_le op_le pe_int (pv 0) (pe_glob (v := .int 8) (by rfl) g_SIDE.choose_spec ⟨_, rfl⟩)))))), ?_⟩
    refine ⟨_, rfl, x, n, rfl, ty, _, rfl, ?_⟩
    cases x with
    | int i =>
      refine iteT ⟨_, rfl, _, _, rfl, rfl, _, rfl, ?_⟩
      refine ite2 (fun h1 => ?_) (fun h1 => ?_)
      · refine ⟨_, _, rfl, rfl, ?_⟩
        have e : lenOk (.int i) = decide (i ≤ 8) := by
          show (decide (1 ≤ i) && decide (i ≤ 8)) = decide (i ≤ 8)
          rw [h1, Bool.true_and]
        rw [e] at q
        exact q
      · have e : lenOk (.int i) = false := by
          show (decide (1 ≤ i) && decide (i ≤ 8)) = false
          rw [Bool.and_eq_false_iff]
          exact .inl (by simpa using h1)
        rw [e] at q
        exact q
    | _ => exact iteF q
noncomputable def sp_is_cell (K : PySem.W.Frag) : Sp := fun vs H Q _ => ∃ (x : V) (n : String), vs = [x] ∧ TyOf K H x (.type n) ∧ Q (.bl (cellOk x)) H
theorem sc_is_cell : FnScope ["thing"] ["thing"] (defScope s_is_cell) := ⟨rfl, rfl, rfl, by decide +kernel, rfl, by decide +kernel, by decide +kernel⟩
set_option maxHeartbeats 4000000 in
theorem ok_is_cell (T : Tx K mg "is_cell" s_is_cell ["thing"]) (B : Bn mg) (d_is_number : Df P w K mg base 1 "is_number" ["thing"] (sp_is_number K)) (g_SIDE : ∃ t, mg "SIDE" = some (.int 8 t)) : Df P w K mg base 2 "is_cell" ["thing"] (sp_is_cell K) := by
  refine T.df sc_is_cell (fun vs H Q E h => ?_) (fun f cdv A outer s H vs Q E hr h => ?_)
  · obtain ⟨x, n, rfl, ty, q⟩ := h
    rfl
  · obtain ⟨x, n, rfl, ty, q⟩ := h
    refine ⟨_, (pss_one (ps_ret (pe_and (pe_df d_is_number hr (pa_cons (pv 0) pa_nil)) (pe_one (pe_chain op_le op_lt pe_int (pv 0) (pe_op op_mul (pe_glob (v := .int 8) (by rfl) g_SIDE.choose_spec ⟨_, rfl⟩) (pe_glob (v := .int 8) (by rfl) g_SIDE.choose_spec ⟨_, rfl⟩))))))), ?_⟩
    refine ⟨_, rfl, x, n, rfl, ty, _, rfl, ?_⟩
    cases x with
    | int i =>
      refine iteT ⟨_, rfl, _, _, rfl, rfl, _, rfl, ?_⟩
      refine ite2 (fun h1 => ?_) (fun h1 => ?_)
      · refine ⟨_, _, rfl, rfl, .inl ⟨by decide, by decide⟩, _, _, rfl, rfl, ?_⟩
        have e : cellOk (.int i) = decide (i < 8 * 8) := by
          show (decide (0 ≤ i) && decide (i < 64)) = decide (i < 64)
          rw [h1, Bool.true_and]
        rw [e] at q
        exact q
      · have e : cellOk (.int i) = false := by
          show (decide (0 ≤ i) && decide (i < 64)) = false
          rw [Bool.and_eq_false_iff]
          exact .inl (by simpa using h1)
        rw [e] at q
        exact q
    | _ => exact iteF q
noncomputable def sp_floor_of (K : PySem.W.Frag) (mg : Str → Option Value) : Sp := fun vs H Q E => ∃ (x y : V) (n1 n2 : String), vs = [x, y] ∧ TyOf K H x (.type n1) ∧ TyOf K H y (.type n2) ∧ ((lenOk x && lenOk y) = true → ∀ l, H l = none → Q (.ref l) (upd H l (.tup [x, y]))) ∧ ((lenOk x && lenOk y) = false → E (clsV mg "BadFloor") none H)
theorem sc_floor_of : FnScope ["wide", "high"] ["wide", "high"] (defScope s_floor_of) := ⟨rfl, rfl, rfl, by decide +kernel, rfl, by decide +kernel, by decide +kernel⟩
set_option maxHeartbeats 4000000 in
theorem ok_floor_of {C_BadFloor : Addr} (T : Tx K mg "floor_of" s_floor_of ["wide", "high"]) (B : Bn mg) (d_is_length : Df P w K mg base 2 "is_length" ["thing"] (sp_is_length K)) (z_BadFloor : ExcCl K mg "BadFloor" C_BadFloor) : DfE P w K mg base 3 "floor_of" ["wide", "high"] (sp_floor_of K mg) := by
  refine T.dfE sc_floor_of (fun vs H Q E h => ?_) (fun f cdv A outer s H vs Q E hr h => ?_)
  · obtain ⟨x, y, n1, n2, rfl, ty1, ty2, q, qE⟩ := h
    rfl
  · obtain ⟨x, y, n1, n2, rfl, ty1, ty2, q, qE⟩ := h
    refine ⟨_, (pss_cons (ps_if ((pw_or (pt_not (pt_val (pe_df d_is_length hr (pa_cons (pv 0) pa_nil)))) (pw_or1 (pt_not (pt_val (pe_df d_is_length hr (pa_cons (pv 1) pa_nil)))))).pt) (pss_one (ps_raise (W := fun H1 => E (.ref C_BadFloor) none H1) z_BadFloor rfl (pa_cons pe_str pa_nil) (fun _ _ _ _ _ _ _ I hx ee => xe_made I hx ee))) pss_nil)
      (pss_one (ps_ret (pe_tup (pa_cons (pv 0) (pa_cons (pv 1) pa_nil)))))), ?_⟩
    rw [clsV_eq z_BadFloor] at qE
    refine ⟨_, rfl, x, n1, rfl, ty1, _, rfl, ?_⟩
    cases e1 : lenOk x with
    | false => exact ⟨len_ok rfl, qE (by rw [e1]; rfl)⟩
    | true =>
      refine iteF ?_
      refine ⟨_, rfl, y, n2, rfl, ty2, _, rfl, ?_⟩
      cases e2 : lenOk y with
      | false => exact ⟨len_ok rfl, qE (by rw [e1, e2]; rfl)⟩
      | true => exact iteF ⟨_, rfl, _, rfl, len_ok rfl, fun l hl => q (by rw [e1, e2]; rfl) l hl⟩
noncomputable def sp_cells_of (K : PySem.W.Frag) (mg : Str → Option Value) : Sp := fun vs H Q E => ∃ (l : Addr) (xs : List V), vs = [.ref l] ∧ SqL K H l xs ∧ (∀ x ∈ xs, ∃ n : String, TyOf K H x (.type n)) ∧ ((∀ x ∈ xs, cellOk x = true) → ∀ i : Int, Q (.int i) H) ∧ ((∃ x ∈ xs, cellOk x = false) → E (clsV mg "BadCells") none H)
theorem sc_cells_of : FnScope ["some", "cells", "thing"] ["some"] (defScope s_cells_of) := ⟨rfl, rfl, rfl, by decide +kernel, rfl, by decide +kernel, by decide +kernel⟩
set_option maxHeartbeats 4000000 in
theorem ok_cells_of {C_BadCells : Addr} (T : Tx K mg "cells_of" s_cells_of ["some"]) (B : Bn mg) (d_is_cell : Df P w K mg base 2 "is_cell" ["thing"] (sp_is_cell K)) (z_BadCells : ExcCl K mg "BadCells" C_BadCells) : DfE P w K mg base 3 "cells_of" ["some"] (sp_cells_of K mg) := by
  refine T.dfE sc_cells_of (fun vs H Q E h => ?_) (fun f cdv A outer s H vs Q E hr h => ?_)
  · obtain ⟨l, xs, rfl, hl, ht, q, qE⟩ := h
    rfl
  · obtain ⟨l, xs, rfl, hl, ht, q, qE⟩ := h
    refine ⟨_, (pss_cons (ps_set (i := 1) sc_cells_of.nd rfl (by first | exact Or.inl rfl | exact Or.inr rfl) pe_int)
      (pss_cons (ps_for PassesOwn.leaving rfl (pi_list (pv 0)) (pg_name (i := 2) sc_cells_of.nd rfl (by first | exact Or.inl rfl | exact Or.inr rfl)) (pss_cons (ps_if (pt_not (pt_val (pe_df d_is_cell hr (pa_cons (pv 2) pa_nil)))) (pss_one (ps_raise (W := fun H1 => E (.ref C_BadCells) none H1) z_BadCells rfl (pa_cons pe_str pa_nil) (fun _ _ _ _ _ _ _ I hx ee => xe_made I hx ee))) pss_nil)
      (pss_one (ps_set (i := 1) sc_cells_of.nd rfl (by first | exact Or.inl rfl | exact Or.inr rfl) (pe_op op_or (pv 1) (pe_op op_shl pe_int (pv 2)))))))
      (pss_one (ps_ret (pv 1))))), ?_⟩
    rw [clsV_eq z_BadCells] at qE
    refine ⟨_, rfl, l, rfl, ⟨_, hl⟩, for_list (K := K) (a := l) (xs := xs) (fun i σ H2 => ∃ (c : Int) (o2 : Option V), σ = [some (.ref l), some (.int c), o2] ∧ H2 = H ∧ ∀ x ∈ xs.take i, cellOk x = true) ⟨0, none, rfl, rfl, fun _ z => (nomatch z)⟩ (fun i σ H2 _ ⟨_, _, _, e, _⟩ => by rw [e]; exact hl) ?_ ?_⟩
    · rintro i y σ H2 hi ⟨c, o2, rfl, rfl, ok⟩
      have yin := List.mem_of_getElem? hi
      obtain ⟨n, ty⟩ := ht y yin
      refine ⟨_, rfl, y, n, rfl, ty, _, rfl, ?_⟩
      cases e : cellOk y with
      | false => exact ⟨len_ok rfl, qE ⟨y, yin, e⟩⟩
      | true =>
        refine iteF ?_
        obtain ⟨k, rfl, k0, k1⟩ : ∃ k : Int, y = .int k ∧ 0 ≤ k ∧ k < 64 := by
          cases y with
          | int k =>
            have e' : (decide (0 ≤ k) && decide (k < 64)) = true := e
            rw [Bool.and_eq_true] at e'
            exact ⟨k, rfl, of_decide_eq_true e'.1, of_decide_eq_true e'.2⟩
          | _ => cases e
        refine ⟨_, rfl, _, rfl, _, _, rfl, rfl, ⟨k0, by omega, by decide⟩, _, _, rfl, rfl, ?_⟩
        refine ⟨_, _, rfl, rfl, fun x hx => ?_⟩
        rw [List.take_add_one, hi, Option.toList_some] at hx
        rcases List.mem_append.mp hx with z | z
        · exact ok x z
        · rw [List.mem_singleton.mp z]; exact e
    · rintro σ H2 ⟨c, o2, rfl, rfl, ok⟩
      rw [List.take_length] at ok
      exact ⟨_, rfl, q ok c⟩
noncomputable def sp_law_fields (K : PySem.W.Frag) : Sp := fun vs H Q _ => ∃ c : Int, vs = [.int c] ∧ ∀ H', Same H H' → Q (.bl true) H'
theorem sc_law_fields : FnScope ["_law_place", "_law_bad", "_law_falls"] ["_law_place"] (defScope s_law_fields) := ⟨rfl, rfl, rfl, by decide +kernel, rfl, by decide +kernel, by decide +kernel⟩
set_option maxHeartbeats 4000000 in
theorem ok_law_fields {C_BadPaper : Addr} {C_Falls : Addr} (T : Tx K mg "_law_fields" s_law_fields ["_law_place"]) (B : Bn mg) (d_law_whole : Df P w K mg base 1 "_law_whole" ["_law_found"] (sp_law_whole K)) (X_BadPaper : DfX P w K mg base 1 "BadPaper" C_BadPaper ["self", "text", "place"] (spX1 C_BadPaper "place")) (X_Falls : DfX P w K mg base 1 "Falls" C_Falls ["self", "text", "word", "who"] (spX2 C_Falls "word" "who")) (z_BadPaper : ClsN mg "BadPaper" C_BadPaper) (z_Falls : ClsN mg "Falls" C_Falls) (r_BadPaper_place : RdX K C_BadPaper "place") (r_Falls_word : RdX K C_Falls "word") (r_Falls_who : RdX K C_Falls "who") : Df P w K mg base 3 "_law_fields" ["_law_place"] (sp_law_fields K) := by
  refine T.df sc_law_fields (fun vs H Q E h => ?_) (fun f cdv A outer s H vs Q E hr h => ?_)
  · obtain ⟨c, rfl, q⟩ := h
    rfl
  · obtain ⟨c, rfl, q⟩ := h
    refine ⟨_, (@pss_cons _ _ _ _ _ (@ps_set _ _ 1 _ _ _ _ sc_law_fields.nd rfl (by first | exact Or.inl rfl | exact Or.inr rfl) (pe_dfX X_BadPaper hr (@pa_cons _ _ _ _ _ pe_str (@pa_cons _ _ _ _ _ (pv 0) pa_nil rfl) rfl)) rfl (by first | exact .inl rfl | exact .inr rfl))
      (@pss_cons _ _ _ _ _ (@ps_set _ _ 2 _ _ _ _ sc_law_fields.nd rfl (by first | exact Or.inl rfl | exact Or.inr rfl) (pe_dfX X_Falls hr (@pa_cons _ _ _ _ _ pe_str (@pa_cons _ _ _ _ _ (@pe_ix _ _ _ _ _ _ _ ix_list (@pe_lst _ _ _ _ (@pa_cons _ _ _ _ _ pe_str (@pa_cons _ _ _ _ _ pe_str pa_nil rfl) rfl)) (pe_op op_mod (pv 0) pe_int) (fun _ _ => rfl)) (@pa_cons _ _ _ _ _ (@pe_ix _ _ _ _ _ _ _ ix_list (@pe_lst _ _ _ _ (@pa_cons _ _ _ _ _ pe_str (@pa_cons _ _ _ _ _ pe_str pa_nil rfl) rfl)) (pe_op op_mod (pv 0) pe_int) (fun _ _ => rfl)) pa_nil rfl) rfl) rfl)) rfl (by first | exact .inl rfl | exact .inr rfl))
      (@pss_cons _ _ _ _ _ (ps_if ((pw_or (pt_not (pt_val (pe_df d_law_whole hr (@pa_cons _ _ _ _ _ (pe_fldX (pv 1)) pa_nil rfl)))) (pw_or1 (pt_cmpR op_ne (pe_fldX (pv 1)) (pv 0) (nomark _)))).pt) (@pss_one _ _ _ (@ps_ret _ _ _ _ pe_bl)) pss_nil)
      (@pss_cons _ _ _ _ _ (ps_if ((pw_or (pt_not (pt_val (pe_callB call_isi (by rfl) B.isinstance boot_isinstance (@pa_cons _ _ _ _ _ (pe_fldX (pv 2)) (@pa_cons _ _ _ _ _ (pe_bltn (x := "str") (v := .ty "str") (by rfl) B.str boot_str rfl) pa_nil rfl) rfl)))) (pw_or1 (pt_cmpR op_ne (pe_fldX (pv 2)) (@pe_ix _ _ _ _ _ _ _ ix_list (@pe_lst _ _ _ _ (@pa_cons _ _ _ _ _ pe_str (@pa_cons _ _ _ _ _ pe_str pa_nil rfl) rfl)) (pe_op op_mod (pv 0) pe_int) (fun _ _ => rfl)) (nomark _)))).pt) (@pss_one _ _ _ (@ps_ret _ _ _ _ pe_bl)) pss_nil)
      (@pss_one _ _ _ (@ps_ret _ _ _ _ (pe_and (pe_callB call_isi (by rfl) B.isinstance boot_isinstance (@pa_cons _ _ _ _ _ (pe_fldX (pv 2)) (@pa_cons _ _ _ _ _ (pe_bltn (x := "str") (v := .ty "str") (by rfl) B.str boot_str rfl) pa_nil rfl) rfl)) (pe_one (pe_cmpR op_eq (pe_fldX (pv 2)) (@pe_ix _ _ _ _ _ _ _ ix_list (@pe_lst _ _ _ _ (@pa_cons _ _ _ _ _ pe_str (@pa_cons _ _ _ _ _ pe_str pa_nil rfl) rfl)) (pe_op op_mod (pv 0) pe_int) (fun _ _ => rfl)) (nomark _)))))))))), ?_⟩
    obtain ⟨w1, hw1⟩ : ∃ w, atI [V.str (Str.ofString "line"), V.str (Str.ofString "waste")] (c % 2) = some (.str w) := by
      rcases (show c % 2 = 0 ∨ c % 2 = 1 by omega) with z | z
      · rw [z]; exact ⟨_, rfl⟩
      · rw [z]; exact ⟨_, rfl⟩
    obtain ⟨w2, hw2⟩ : ∃ w, atI [V.str (Str.ofString ""), V.str (Str.ofString "ann")] (c % 2) = some (.str w) := by
      rcases (show c % 2 = 0 ∨ c % 2 = 1 by omega) with z | z
      · rw [z]; exact ⟨_, rfl⟩
      · rw [z]; exact ⟨_, rfl⟩
    refine ⟨_, rfl, len_ok rfl, fun x hx => ⟨x, _, _, rfl, upd_same, fun dx hdx ne => ⟨rfl, ?_⟩⟩⟩
    have hdx' : H dx = none := by rw [upd_ne ne] at hdx; exact hdx
    rw [upd_upd]
    have s1 : Same H (upd (upd H x (XO x C_BadPaper (some dx))) dx (XD dx [("place", .int c)])) := (Same.upd hx).trans (Same.upd (by rw [upd_ne ne]; exact hdx'))
    have x1 : (upd (upd H x (XO x C_BadPaper (some dx))) dx (XD dx [("place", .int c)])) x = some (XO x C_BadPaper (some dx)) := upd_at2 ne
    have d1 : (upd (upd H x (XO x C_BadPaper (some dx))) dx (XD dx [("place", .int c)])) dx = some (XD dx [("place", .int c)]) := upd_same
    generalize (upd (upd H x (XO x C_BadPaper (some dx))) dx (XD dx [("place", .int c)])) = H1 at s1 x1 d1 ⊢
    refine ⟨len_ok rfl, fun l1 hl1 => ?_⟩
    have s2 := Same.upd (o := .lst [V.str (Str.ofString "line"), V.str (Str.ofString "waste")]) hl1
    refine ⟨_, rfl, _, _, rfl, rfl, (by show (0 : Int) < _; decide), l1, _, _, _, rfl, rfl, SqL.of upd_same, hw1, len_ok rfl, fun l2 hl2 => ?_⟩
    have s3 := Same.upd (o := .lst [V.str (Str.ofString ""), V.str (Str.ofString "ann")]) hl2
    have s23 := s2.trans s3
    refine ⟨_, rfl, _, _, rfl, rfl, (by show (0 : Int) < _; decide), l2, _, _, _, rfl, rfl, SqL.of upd_same, hw2, len_ok rfl, ?_⟩
    generalize (upd (upd H1 l1 (.lst [V.str (Str.ofString "line"), V.str (Str.ofString "waste")])) l2 (.lst [V.str (Str.ofString ""), V.str (Str.ofString "ann")])) = H2 at s3 s23 ⊢
    intro y hy
    refine ⟨y, _, _, _, rfl, upd_same, fun ey hey ney => ⟨rfl, ?_⟩⟩
    have hey' : H2 ey = none := by rw [upd_ne ney] at hey; exact hey
    rw [upd_upd]
    have s4 : Same H2 (upd (upd H2 y (XO y C_Falls (some ey))) ey (XD ey [("who", .str w2), ("word", .str w1)])) := (Same.upd hy).trans (Same.upd (by rw [upd_ne ney]; exact hey'))
    have y1 : (upd (upd H2 y (XO y C_Falls (some ey))) ey (XD ey [("who", .str w2), ("word", .str w1)])) y = some (XO y C_Falls (some ey)) := upd_at2 ney
    have e1 : (upd (upd H2 y (XO y C_Falls (some ey))) ey (XD ey [("who", .str w2), ("word", .str w1)])) ey = some (XD ey [("who", .str w2), ("word", .str w1)]) := upd_same
    generalize (upd (upd H2 y (XO y C_Falls (some ey))) ey (XD ey [("who", .str w2), ("word", .str w1)])) = H3 at s4 y1 e1 ⊢
    have s24 := s23.trans s4
    have x3 := s24 _ _ x1
    have d3 := s24 _ _ d1
    refine ⟨_, rfl, x, C_BadPaper, dx, _, _, rfl, x3, d3, r_BadPaper_place, rfl, _, _, rfl, TyOf.int c, _, rfl, iteF ?_⟩
    refine ⟨_, rfl, x, C_BadPaper, dx, _, _, rfl, x3, d3, r_BadPaper_place, rfl, _, rfl, rfl, _, rfl, ?_⟩
    refine ite2 (fun h => absurd h (by simp)) (fun _ => ?_)
    have k1 := kit_str K (TyOf.str w1 : TyOf K H3 (.str w1) (.type "str"))
    have k2 : ∀ H', PySem.W.kitOne K (.type "str") (.type "str") = some (isS (.str w2)) := fun H' => kit_str K (TyOf.str w2 : TyOf K H' (.str w2) (.type "str"))
    refine ⟨_, rfl, y, C_Falls, ey, _, _, rfl, y1, e1, r_Falls_word, rfl, _, _, _, _, rfl, TyOf.str w1, k1, _, rfl, iteF ?_⟩
    refine ⟨_, rfl, y, C_Falls, ey, _, _, rfl, y1, e1, r_Falls_word, rfl, len_ok rfl, fun l5 hl5 => ?_⟩
    have s5 := Same.upd (o := .lst [V.str (Str.ofString "line"), V.str (Str.ofString "waste")]) hl5
    refine ⟨_, rfl, _, _, rfl, rfl, (by show (0 : Int) < _; decide), l5, _, _, _, rfl, rfl, SqL.of upd_same, hw1, rfl, _, rfl, ?_⟩
    refine ite2 (fun h => absurd h (by simp)) (fun _ => ?_)
    have y5 := s5 _ _ y1
    have e5 := s5 _ _ e1
    generalize (upd H3 l5 (.lst [V.str (Str.ofString "line"), V.str (Str.ofString "waste")])) = H5 at s5 y5 e5 ⊢
    refine ⟨_, rfl, y, C_Falls, ey, _, _, rfl, y5, e5, r_Falls_who, rfl, _, _, _, _, rfl, TyOf.str w2, k2 H5, _, rfl, iteT ?_⟩
    refine ⟨_, rfl, y, C_Falls, ey, _, _, rfl, y5, e5, r_Falls_who, rfl, len_ok rfl, fun l6 hl6 => ?_⟩
    have s6 := Same.upd (o := .lst [V.str (Str.ofString ""), V.str (Str.ofString "ann")]) hl6
    refine ⟨_, rfl, _, _, rfl, rfl, (by show (0 : Int) < _; decide), l6, _, _, _, rfl, rfl, SqL.of upd_same, hw2, rfl, ?_⟩
    rw [decide_eq_true rfl]
    exact q _ (s1.trans (s24.trans (s5.trans s6)))
noncomputable def sp_law_classes (K : PySem.W.Frag) : Sp := fun vs H Q _ => vs = [] ∧ ∀ H', Same H H' → Q (.bl true) H'
theorem sc_law_classes : FnScope ["_law_some", "_law_k"] [] (defScope s_law_classes) := ⟨rfl, rfl, rfl, by decide +kernel, rfl, by decide +kernel, by decide +kernel⟩
set_option maxHeartbeats 4000000 in
theorem ok_law_classes {C_LandError : Addr} {C_BadFloor : Addr} {C_BadTerm : Addr} {C_BadCells : Addr} {C_BadFraction : Addr} {C_BadShares : Addr} {C_TooLittle : Addr} {C_TooFine : Addr} {C_Late : Addr} {C_Full : Addr} {C_OtherKnown : Addr} {C_NoText : Addr} {C_NoRow : Addr} {C_BadPaper : Addr} {C_Falls : Addr} (T : Tx K mg "_law_classes" s_law_classes []) (B : Bn mg) (m_law_kinds : DfM P w K mg base 1 "_law_kinds" ["_law_e"] (sp_law_kinds K mg)) (X_BadPaper : DfX P w K mg base 1 "BadPaper" C_BadPaper ["self", "text", "place"] (spX1 C_BadPaper "place")) (X_Falls : DfX P w K mg base 1 "Falls" C_Falls ["self", "text", "word", "who"] (spX2 C_Falls "word" "who")) (b_ValueError : mg "ValueError" = none) (z_LandError : ExcCl K mg "LandError" C_LandError) (z_BadFloor : ExcCl K mg "BadFloor" C_BadFloor) (z_BadTerm : ExcCl K mg "BadTerm" C_BadTerm) (z_BadCells : ExcCl K mg "BadCells" C_BadCells) (z_BadFraction : ExcCl K mg "BadFraction" C_BadFraction) (z_BadShares : ExcCl K mg "BadShares" C_BadShares) (z_TooLittle : ExcCl K mg "TooLittle" C_TooLittle) (z_TooFine : ExcCl K mg "TooFine" C_TooFine) (z_Late : ExcCl K mg "Late" C_Late) (z_Full : ExcCl K mg "Full" C_Full) (z_OtherKnown : ExcCl K mg "OtherKnown" C_OtherKnown) (z_NoText : ExcCl K mg "NoText" C_NoText) (z_NoRow : ExcCl K mg "NoRow" C_NoRow) (z_BadPaper : ClsN mg "BadPaper" C_BadPaper) (z_Falls : ClsN mg "Falls" C_Falls) (a_BadFloor : ExcA K C_BadFloor) (k_BadFloor_LandError : PySem.W.kitOne K (.ref C_BadFloor) (.ref C_LandError) = some true) (t_BadFloor_ValueError : PySem.W.kitOne K (.ref C_BadFloor) (.type "ValueError") = some true) (k_BadFloor_BadFloor : PySem.W.kitOne K (.ref C_BadFloor) (.ref C_BadFloor) = some true) (k_BadFloor_BadCells : PySem.W.kitOne K (.ref C_BadFloor) (.ref C_BadCells) = some false) (k_BadFloor_BadFraction : PySem.W.kitOne K (.ref C_BadFloor) (.ref C_BadFraction) = some false) (k_BadFloor_BadShares : PySem.W.kitOne K (.ref C_BadFloor) (.ref C_BadShares) = some false) (k_BadFloor_TooLittle : PySem.W.kitOne K (.ref C_BadFloor) (.ref C_TooLittle) = some false) (k_BadFloor_TooFine : PySem.W.kitOne K (.ref C_BadFloor) (.ref C_TooFine) = some false) (k_BadFloor_BadPaper : PySem.W.kitOne K (.ref C_BadFloor) (.ref C_BadPaper) = some false) (k_BadFloor_Falls : PySem.W.kitOne K (.ref C_BadFloor) (.ref C_Falls) = some false) (k_BadFloor_Late : PySem.W.kitOne K (.ref C_BadFloor) (.ref C_Late) = some false) (k_BadFloor_Full : PySem.W.kitOne K (.ref C_BadFloor) (.ref C_Full) = some false) (k_BadFloor_OtherKnown : PySem.W.kitOne K (.ref C_BadFloor) (.ref C_OtherKnown) = some false) (k_BadFloor_NoText : PySem.W.kitOne K (.ref C_BadFloor) (.ref C_NoText) = some false) (k_BadFloor_NoRow : PySem.W.kitOne K (.ref C_BadFloor) (.ref C_NoRow) = some false) (k_BadFloor_BadTerm : PySem.W.kitOne K (.ref C_BadFloor) (.ref C_BadTerm) = some false) (p_BadFloor : PySem.W.keepIn K (.ref C_BadFloor) = true) (a_BadCells : ExcA K C_BadCells) (k_BadCells_LandError : PySem.W.kitOne K (.ref C_BadCells) (.ref C_LandError) = some true) (t_BadCells_ValueError : PySem.W.kitOne K (.ref C_BadCells) (.type "ValueError") = some true) (k_BadCells_BadFloor : PySem.W.kitOne K (.ref C_BadCells) (.ref C_BadFloor) = some false) (k_BadCells_BadCells : PySem.W.kitOne K (.ref C_BadCells) (.ref C_BadCells) = some true) (k_BadCells_BadFraction : PySem.W.kitOne K (.ref C_BadCells) (.ref C_BadFraction) = some false) (k_BadCells_BadShares : PySem.W.kitOne K (.ref C_BadCells) (.ref C_BadShares) = some false) (k_BadCells_TooLittle : PySem.W.kitOne K (.ref C_BadCells) (.ref C_TooLittle) = some false) (k_BadCells_TooFine : PySem.W.kitOne K (.ref C_BadCells) (.ref C_TooFine) = some false) (k_BadCells_BadPaper : PySem.W.kitOne K (.ref C_BadCells) (.ref C_BadPaper) = some false) (k_BadCells_Falls : PySem.W.kitOne K (.ref C_BadCells) (.ref C_Falls) = some false) (k_BadCells_Late : PySem.W.kitOne K (.ref C_BadCells) (.ref C_Late) = some false) (k_BadCells_Full : PySem.W.kitOne K (.ref C_BadCells) (.ref C_Full) = some false) (k_BadCells_OtherKnown : PySem.W.kitOne K (.ref C_BadCells) (.ref C_OtherKnown) = some false) (k_BadCells_NoText : PySem.W.kitOne K (.ref C_BadCells) (.ref C_NoText) = some false) (k_BadCells_NoRow : PySem.W.kitOne K (.ref C_BadCells) (.ref C_NoRow) = some false) (k_BadCells_BadTerm : PySem.W.kitOne K (.ref C_BadCells) (.ref C_BadTerm) = some false) (p_BadCells : PySem.W.keepIn K (.ref C_BadCells) = true) (a_BadFraction : ExcA K C_BadFraction) (k_BadFraction_LandError : PySem.W.kitOne K (.ref C_BadFraction) (.ref C_LandError) = some true) (t_BadFraction_ValueError : PySem.W.kitOne K (.ref C_BadFraction) (.type "ValueError") = some true) (k_BadFraction_BadFloor : PySem.W.kitOne K (.ref C_BadFraction) (.ref C_BadFloor) = some false) (k_BadFraction_BadCells : PySem.W.kitOne K (.ref C_BadFraction) (.ref C_BadCells) = some false) (k_BadFraction_BadFraction : PySem.W.kitOne K (.ref C_BadFraction) (.ref C_BadFraction) = some true) (k_BadFraction_BadShares : PySem.W.kitOne K (.ref C_BadFraction) (.ref C_BadShares) = some false) (k_BadFraction_TooLittle : PySem.W.kitOne K (.ref C_BadFraction) (.ref C_TooLittle) = some false) (k_BadFraction_TooFine : PySem.W.kitOne K (.ref C_BadFraction) (.ref C_TooFine) = some false) (k_BadFraction_BadPaper : PySem.W.kitOne K (.ref C_BadFraction) (.ref C_BadPaper) = some false) (k_BadFraction_Falls : PySem.W.kitOne K (.ref C_BadFraction) (.ref C_Falls) = some false) (k_BadFraction_Late : PySem.W.kitOne K (.ref C_BadFraction) (.ref C_Late) = some false) (k_BadFraction_Full : PySem.W.kitOne K (.ref C_BadFraction) (.ref C_Full) = some false) (k_BadFraction_OtherKnown : PySem.W.kitOne K (.ref C_BadFraction) (.ref C_OtherKnown) = some false) (k_BadFraction_NoText : PySem.W.kitOne K (.ref C_BadFraction) (.ref C_NoText) = some false) (k_BadFraction_NoRow : PySem.W.kitOne K (.ref C_BadFraction) (.ref C_NoRow) = some false) (k_BadFraction_BadTerm : PySem.W.kitOne K (.ref C_BadFraction) (.ref C_BadTerm) = some false) (p_BadFraction : PySem.W.keepIn K (.ref C_BadFraction) = true) (a_BadShares : ExcA K C_BadShares) (k_BadShares_LandError : PySem.W.kitOne K (.ref C_BadShares) (.ref C_LandError) = some true) (t_BadShares_ValueError : PySem.W.kitOne K (.ref C_BadShares) (.type "ValueError") = some true) (k_BadShares_BadFloor : PySem.W.kitOne K (.ref C_BadShares) (.ref C_BadFloor) = some false) (k_BadShares_BadCells : PySem.W.kitOne K (.ref C_BadShares) (.ref C_BadCells) = some false) (k_BadShares_BadFraction : PySem.W.kitOne K (.ref C_BadShares) (.ref C_BadFraction) = some false) (k_BadShares_BadShares : PySem.W.kitOne K (.ref C_BadShares) (.ref C_BadShares) = some true) (k_BadShares_TooLittle : PySem.W.kitOne K (.ref C_BadShares) (.ref C_TooLittle) = some false) (k_BadShares_TooFine : PySem.W.kitOne K (.ref C_BadShares) (.ref C_TooFine) = some false) (k_BadShares_BadPaper : PySem.W.kitOne K (.ref C_BadShares) (.ref C_BadPaper) = some false) (k_BadShares_Falls : PySem.W.kitOne K (.ref C_BadShares) (.ref C_Falls) = some false) (k_BadShares_Late : PySem.W.kitOne K (.ref C_BadShares) (.ref C_Late) = some false) (k_BadShares_Full : PySem.W.kitOne K (.ref C_BadShares) (.ref C_Full) = some false) (k_BadShares_OtherKnown : PySem.W.kitOne K (.ref C_BadShares) (.ref C_OtherKnown) = some false) (k_BadShares_NoText : PySem.W.kitOne K (.ref C_BadShares) (.ref C_NoText) = some false) (k_BadShares_NoRow : PySem.W.kitOne K (.ref C_BadShares) (.ref C_NoRow) = some false) (k_BadShares_BadTerm : PySem.W.kitOne K (.ref C_BadShares) (.ref C_BadTerm) = some false) (p_BadShares : PySem.W.keepIn K (.ref C_BadShares) = true) (a_TooLittle : ExcA K C_TooLittle) (k_TooLittle_LandError : PySem.W.kitOne K (.ref C_TooLittle) (.ref C_LandError) = some true) (t_TooLittle_ValueError : PySem.W.kitOne K (.ref C_TooLittle) (.type "ValueError") = some true) (k_TooLittle_BadFloor : PySem.W.kitOne K (.ref C_TooLittle) (.ref C_BadFloor) = some false) (k_TooLittle_BadCells : PySem.W.kitOne K (.ref C_TooLittle) (.ref C_BadCells) = some false) (k_TooLittle_BadFraction : PySem.W.kitOne K (.ref C_TooLittle) (.ref C_BadFraction) = some false) (k_TooLittle_BadShares : PySem.W.kitOne K (.ref C_TooLittle) (.ref C_BadShares) = some false) (k_TooLittle_TooLittle : PySem.W.kitOne K (.ref C_TooLittle) (.ref C_TooLittle) = some true) (k_TooLittle_TooFine : PySem.W.kitOne K (.ref C_TooLittle) (.ref C_TooFine) = some false) (k_TooLittle_BadPaper : PySem.W.kitOne K (.ref C_TooLittle) (.ref C_BadPaper) = some false) (k_TooLittle_Falls : PySem.W.kitOne K (.ref C_TooLittle) (.ref C_Falls) = some false) (k_TooLittle_Late : PySem.W.kitOne K (.ref C_TooLittle) (.ref C_Late) = some false) (k_TooLittle_Full : PySem.W.kitOne K (.ref C_TooLittle) (.ref C_Full) = some false) (k_TooLittle_OtherKnown : PySem.W.kitOne K (.ref C_TooLittle) (.ref C_OtherKnown) = some false) (k_TooLittle_NoText : PySem.W.kitOne K (.ref C_TooLittle) (.ref C_NoText) = some false) (k_TooLittle_NoRow : PySem.W.kitOne K (.ref C_TooLittle) (.ref C_NoRow) = some false) (k_TooLittle_BadTerm : PySem.W.kitOne K (.ref C_TooLittle) (.ref C_BadTerm) = some false) (p_TooLittle : PySem.W.keepIn K (.ref C_TooLittle) = true) (a_TooFine : ExcA K C_TooFine) (k_TooFine_LandError : PySem.W.kitOne K (.ref C_TooFine) (.ref C_LandError) = some true) (t_TooFine_ValueError : PySem.W.kitOne K (.ref C_TooFine) (.type "ValueError") = some true) (k_TooFine_BadFloor : PySem.W.kitOne K (.ref C_TooFine) (.ref C_BadFloor) = some false) (k_TooFine_BadCells : PySem.W.kitOne K (.ref C_TooFine) (.ref C_BadCells) = some false) (k_TooFine_BadFraction : PySem.W.kitOne K (.ref C_TooFine) (.ref C_BadFraction) = some false) (k_TooFine_BadShares : PySem.W.kitOne K (.ref C_TooFine) (.ref C_BadShares) = some false) (k_TooFine_TooLittle : PySem.W.kitOne K (.ref C_TooFine) (.ref C_TooLittle) = some false) (k_TooFine_TooFine : PySem.W.kitOne K (.ref C_TooFine) (.ref C_TooFine) = some true) (k_TooFine_BadPaper : PySem.W.kitOne K (.ref C_TooFine) (.ref C_BadPaper) = some false) (k_TooFine_Falls : PySem.W.kitOne K (.ref C_TooFine) (.ref C_Falls) = some false) (k_TooFine_Late : PySem.W.kitOne K (.ref C_TooFine) (.ref C_Late) = some false) (k_TooFine_Full : PySem.W.kitOne K (.ref C_TooFine) (.ref C_Full) = some false) (k_TooFine_OtherKnown : PySem.W.kitOne K (.ref C_TooFine) (.ref C_OtherKnown) = some false) (k_TooFine_NoText : PySem.W.kitOne K (.ref C_TooFine) (.ref C_NoText) = some false) (k_TooFine_NoRow : PySem.W.kitOne K (.ref C_TooFine) (.ref C_NoRow) = some false) (k_TooFine_BadTerm : PySem.W.kitOne K (.ref C_TooFine) (.ref C_BadTerm) = some false) (p_TooFine : PySem.W.keepIn K (.ref C_TooFine) = true) (a_BadPaper : ExcA K C_BadPaper) (k_BadPaper_LandError : PySem.W.kitOne K (.ref C_BadPaper) (.ref C_LandError) = some true) (t_BadPaper_ValueError : PySem.W.kitOne K (.ref C_BadPaper) (.type "ValueError") = some true) (k_BadPaper_BadFloor : PySem.W.kitOne K (.ref C_BadPaper) (.ref C_BadFloor) = some false) (k_BadPaper_BadCells : PySem.W.kitOne K (.ref C_BadPaper) (.ref C_BadCells) = some false) (k_BadPaper_BadFraction : PySem.W.kitOne K (.ref C_BadPaper) (.ref C_BadFraction) = some false) (k_BadPaper_BadShares : PySem.W.kitOne K (.ref C_BadPaper) (.ref C_BadShares) = some false) (k_BadPaper_TooLittle : PySem.W.kitOne K (.ref C_BadPaper) (.ref C_TooLittle) = some false) (k_BadPaper_TooFine : PySem.W.kitOne K (.ref C_BadPaper) (.ref C_TooFine) = some false) (k_BadPaper_BadPaper : PySem.W.kitOne K (.ref C_BadPaper) (.ref C_BadPaper) = some true) (k_BadPaper_Falls : PySem.W.kitOne K (.ref C_BadPaper) (.ref C_Falls) = some false) (k_BadPaper_Late : PySem.W.kitOne K (.ref C_BadPaper) (.ref C_Late) = some false) (k_BadPaper_Full : PySem.W.kitOne K (.ref C_BadPaper) (.ref C_Full) = some false) (k_BadPaper_OtherKnown : PySem.W.kitOne K (.ref C_BadPaper) (.ref C_OtherKnown) = some false) (k_BadPaper_NoText : PySem.W.kitOne K (.ref C_BadPaper) (.ref C_NoText) = some false) (k_BadPaper_NoRow : PySem.W.kitOne K (.ref C_BadPaper) (.ref C_NoRow) = some false) (k_BadPaper_BadTerm : PySem.W.kitOne K (.ref C_BadPaper) (.ref C_BadTerm) = some false) (a_Falls : ExcA K C_Falls) (k_Falls_LandError : PySem.W.kitOne K (.ref C_Falls) (.ref C_LandError) = some true) (t_Falls_ValueError : PySem.W.kitOne K (.ref C_Falls) (.type "ValueError") = some true) (k_Falls_BadFloor : PySem.W.kitOne K (.ref C_Falls) (.ref C_BadFloor) = some false) (k_Falls_BadCells : PySem.W.kitOne K (.ref C_Falls) (.ref C_BadCells) = some false) (k_Falls_BadFraction : PySem.W.kitOne K (.ref C_Falls) (.ref C_BadFraction) = some false) (k_Falls_BadShares : PySem.W.kitOne K (.ref C_Falls) (.ref C_BadShares) = some false) (k_Falls_TooLittle : PySem.W.kitOne K (.ref C_Falls) (.ref C_TooLittle) = some false) (k_Falls_TooFine : PySem.W.kitOne K (.ref C_Falls) (.ref C_TooFine) = some false) (k_Falls_BadPaper : PySem.W.kitOne K (.ref C_Falls) (.ref C_BadPaper) = some false) (k_Falls_Falls : PySem.W.kitOne K (.ref C_Falls) (.ref C_Falls) = some true) (k_Falls_Late : PySem.W.kitOne K (.ref C_Falls) (.ref C_Late) = some false) (k_Falls_Full : PySem.W.kitOne K (.ref C_Falls) (.ref C_Full) = some false) (k_Falls_OtherKnown : PySem.W.kitOne K (.ref C_Falls) (.ref C_OtherKnown) = some false) (k_Falls_NoText : PySem.W.kitOne K (.ref C_Falls) (.ref C_NoText) = some false) (k_Falls_NoRow : PySem.W.kitOne K (.ref C_Falls) (.ref C_NoRow) = some false) (k_Falls_BadTerm : PySem.W.kitOne K (.ref C_Falls) (.ref C_BadTerm) = some false) (a_Late : ExcA K C_Late) (k_Late_LandError : PySem.W.kitOne K (.ref C_Late) (.ref C_LandError) = some true) (t_Late_ValueError : PySem.W.kitOne K (.ref C_Late) (.type "ValueError") = some true) (k_Late_BadFloor : PySem.W.kitOne K (.ref C_Late) (.ref C_BadFloor) = some false) (k_Late_BadCells : PySem.W.kitOne K (.ref C_Late) (.ref C_BadCells) = some false) (k_Late_BadFraction : PySem.W.kitOne K (.ref C_Late) (.ref C_BadFraction) = some false) (k_Late_BadShares : PySem.W.kitOne K (.ref C_Late) (.ref C_BadShares) = some false) (k_Late_TooLittle : PySem.W.kitOne K (.ref C_Late) (.ref C_TooLittle) = some false) (k_Late_TooFine : PySem.W.kitOne K (.ref C_Late) (.ref C_TooFine) = some false) (k_Late_BadPaper : PySem.W.kitOne K (.ref C_Late) (.ref C_BadPaper) = some false) (k_Late_Falls : PySem.W.kitOne K (.ref C_Late) (.ref C_Falls) = some false) (k_Late_Late : PySem.W.kitOne K (.ref C_Late) (.ref C_Late) = some true) (k_Late_Full : PySem.W.kitOne K (.ref C_Late) (.ref C_Full) = some false) (k_Late_OtherKnown : PySem.W.kitOne K (.ref C_Late) (.ref C_OtherKnown) = some false) (k_Late_NoText : PySem.W.kitOne K (.ref C_Late) (.ref C_NoText) = some false) (k_Late_NoRow : PySem.W.kitOne K (.ref C_Late) (.ref C_NoRow) = some false) (k_Late_BadTerm : PySem.W.kitOne K (.ref C_Late) (.ref C_BadTerm) = some false) (p_Late : PySem.W.keepIn K (.ref C_Late) = true) (a_Full : ExcA K C_Full) (k_Full_LandError : PySem.W.kitOne K (.ref C_Full) (.ref C_LandError) = some true) (t_Full_ValueError : PySem.W.kitOne K (.ref C_Full) (.type "ValueError") = some true) (k_Full_BadFloor : PySem.W.kitOne K (.ref C_Full) (.ref C_BadFloor) = some false) (k_Full_BadCells : PySem.W.kitOne K (.ref C_Full) (.ref C_BadCells) = some false) (k_Full_BadFraction : PySem.W.kitOne K (.ref C_Full) (.ref C_BadFraction) = some false) (k_Full_BadShares : PySem.W.kitOne K (.ref C_Full) (.ref C_BadShares) = some false) (k_Full_TooLittle : PySem.W.kitOne K (.ref C_Full) (.ref C_TooLittle) = some false) (k_Full_TooFine : PySem.W.kitOne K (.ref C_Full) (.ref C_TooFine) = some false) (k_Full_BadPaper : PySem.W.kitOne K (.ref C_Full) (.ref C_BadPaper) = some false) (k_Full_Falls : PySem.W.kitOne K (.ref C_Full) (.ref C_Falls) = some false) (k_Full_Late : PySem.W.kitOne K (.ref C_Full) (.ref C_Late) = some false) (k_Full_Full : PySem.W.kitOne K (.ref C_Full) (.ref C_Full) = some true) (k_Full_OtherKnown : PySem.W.kitOne K (.ref C_Full) (.ref C_OtherKnown) = some false) (k_Full_NoText : PySem.W.kitOne K (.ref C_Full) (.ref C_NoText) = some false) (k_Full_NoRow : PySem.W.kitOne K (.ref C_Full) (.ref C_NoRow) = some false) (k_Full_BadTerm : PySem.W.kitOne K (.ref C_Full) (.ref C_BadTerm) = some false) (p_Full : PySem.W.keepIn K (.ref C_Full) = true) (a_OtherKnown : ExcA K C_OtherKnown) (k_OtherKnown_LandError : PySem.W.kitOne K (.ref C_OtherKnown) (.ref C_LandError) = some true) (t_OtherKnown_ValueError : PySem.W.kitOne K (.ref C_OtherKnown) (.type "ValueError") = some true) (k_OtherKnown_BadFloor : PySem.W.kitOne K (.ref C_OtherKnown) (.ref C_BadFloor) = some false) (k_OtherKnown_BadCells : PySem.W.kitOne K (.ref C_OtherKnown) (.ref C_BadCells) = some false) (k_OtherKnown_BadFraction : PySem.W.kitOne K (.ref C_OtherKnown) (.ref C_BadFraction) = some false) (k_OtherKnown_BadShares : PySem.W.kitOne K (.ref C_OtherKnown) (.ref C_BadShares) = some false) (k_OtherKnown_TooLittle : PySem.W.kitOne K (.ref C_OtherKnown) (.ref C_TooLittle) = some false) (k_OtherKnown_TooFine : PySem.W.kitOne K (.ref C_OtherKnown) (.ref C_TooFine) = some false) (k_OtherKnown_BadPaper : PySem.W.kitOne K (.ref C_OtherKnown) (.ref C_BadPaper) = some false) (k_OtherKnown_Falls : PySem.W.kitOne K (.ref C_OtherKnown) (.ref C_Falls) = some false) (k_OtherKnown_Late : PySem.W.kitOne K (.ref C_OtherKnown) (.ref C_Late) = some false) (k_OtherKnown_Full : PySem.W.kitOne K (.ref C_OtherKnown) (.ref C_Full) = some false) (k_OtherKnown_OtherKnown : PySem.W.kitOne K (.ref C_OtherKnown) (.ref C_OtherKnown) = some true) (k_OtherKnown_NoText : PySem.W.kitOne K (.ref C_OtherKnown) (.ref C_NoText) = some false) (k_OtherKnown_NoRow : PySem.W.kitOne K (.ref C_OtherKnown) (.ref C_NoRow) = some false) (k_OtherKnown_BadTerm : PySem.W.kitOne K (.ref C_OtherKnown) (.ref C_BadTerm) = some false) (p_OtherKnown : PySem.W.keepIn K (.ref C_OtherKnown) = true) (a_NoText : ExcA K C_NoText) (k_NoText_LandError : PySem.W.kitOne K (.ref C_NoText) (.ref C_LandError) = some true) (t_NoText_ValueError : PySem.W.kitOne K (.ref C_NoText) (.type "ValueError") = some true) (k_NoText_BadFloor : PySem.W.kitOne K (.ref C_NoText) (.ref C_BadFloor) = some false) (k_NoText_BadCells : PySem.W.kitOne K (.ref C_NoText) (.ref C_BadCells) = some false) (k_NoText_BadFraction : PySem.W.kitOne K (.ref C_NoText) (.ref C_BadFraction) = some false) (k_NoText_BadShares : PySem.W.kitOne K (.ref C_NoText) (.ref C_BadShares) = some false) (k_NoText_TooLittle : PySem.W.kitOne K (.ref C_NoText) (.ref C_TooLittle) = some false) (k_NoText_TooFine : PySem.W.kitOne K (.ref C_NoText) (.ref C_TooFine) = some false) (k_NoText_BadPaper : PySem.W.kitOne K (.ref C_NoText) (.ref C_BadPaper) = some false) (k_NoText_Falls : PySem.W.kitOne K (.ref C_NoText) (.ref C_Falls) = some false) (k_NoText_Late : PySem.W.kitOne K (.ref C_NoText) (.ref C_Late) = some false) (k_NoText_Full : PySem.W.kitOne K (.ref C_NoText) (.ref C_Full) = some false) (k_NoText_OtherKnown : PySem.W.kitOne K (.ref C_NoText) (.ref C_OtherKnown) = some false) (k_NoText_NoText : PySem.W.kitOne K (.ref C_NoText) (.ref C_NoText) = some true) (k_NoText_NoRow : PySem.W.kitOne K (.ref C_NoText) (.ref C_NoRow) = some false) (k_NoText_BadTerm : PySem.W.kitOne K (.ref C_NoText) (.ref C_BadTerm) = some false) (p_NoText : PySem.W.keepIn K (.ref C_NoText) = true) (a_NoRow : ExcA K C_NoRow) (k_NoRow_LandError : PySem.W.kitOne K (.ref C_NoRow) (.ref C_LandError) = some true) (t_NoRow_ValueError : PySem.W.kitOne K (.ref C_NoRow) (.type "ValueError") = some true) (k_NoRow_BadFloor : PySem.W.kitOne K (.ref C_NoRow) (.ref C_BadFloor) = some false) (k_NoRow_BadCells : PySem.W.kitOne K (.ref C_NoRow) (.ref C_BadCells) = some false) (k_NoRow_BadFraction : PySem.W.kitOne K (.ref C_NoRow) (.ref C_BadFraction) = some false) (k_NoRow_BadShares : PySem.W.kitOne K (.ref C_NoRow) (.ref C_BadShares) = some false) (k_NoRow_TooLittle : PySem.W.kitOne K (.ref C_NoRow) (.ref C_TooLittle) = some false) (k_NoRow_TooFine : PySem.W.kitOne K (.ref C_NoRow) (.ref C_TooFine) = some false) (k_NoRow_BadPaper : PySem.W.kitOne K (.ref C_NoRow) (.ref C_BadPaper) = some false) (k_NoRow_Falls : PySem.W.kitOne K (.ref C_NoRow) (.ref C_Falls) = some false) (k_NoRow_Late : PySem.W.kitOne K (.ref C_NoRow) (.ref C_Late) = some false) (k_NoRow_Full : PySem.W.kitOne K (.ref C_NoRow) (.ref C_Full) = some false) (k_NoRow_OtherKnown : PySem.W.kitOne K (.ref C_NoRow) (.ref C_OtherKnown) = some false) (k_NoRow_NoText : PySem.W.kitOne K (.ref C_NoRow) (.ref C_NoText) = some false) (k_NoRow_NoRow : PySem.W.kitOne K (.ref C_NoRow) (.ref C_NoRow) = some true) (k_NoRow_BadTerm : PySem.W.kitOne K (.ref C_NoRow) (.ref C_BadTerm) = some false) (p_NoRow : PySem.W.keepIn K (.ref C_NoRow) = true) (a_BadTerm : ExcA K C_BadTerm) (k_BadTerm_LandError : PySem.W.kitOne K (.ref C_BadTerm) (.ref C_LandError) = some true) (t_BadTerm_ValueError : PySem.W.kitOne K (.ref C_BadTerm) (.type "ValueError") = some true) (k_BadTerm_BadFloor : PySem.W.kitOne K (.ref C_BadTerm) (.ref C_BadFloor) = some false) (k_BadTerm_BadCells : PySem.W.kitOne K (.ref C_BadTerm) (.ref C_BadCells) = some false) (k_BadTerm_BadFraction : PySem.W.kitOne K (.ref C_BadTerm) (.ref C_BadFraction) = some false) (k_BadTerm_BadShares : PySem.W.kitOne K (.ref C_BadTerm) (.ref C_BadShares) = some false) (k_BadTerm_TooLittle : PySem.W.kitOne K (.ref C_BadTerm) (.ref C_TooLittle) = some false) (k_BadTerm_TooFine : PySem.W.kitOne K (.ref C_BadTerm) (.ref C_TooFine) = some false) (k_BadTerm_BadPaper : PySem.W.kitOne K (.ref C_BadTerm) (.ref C_BadPaper) = some false) (k_BadTerm_Falls : PySem.W.kitOne K (.ref C_BadTerm) (.ref C_Falls) = some false) (k_BadTerm_Late : PySem.W.kitOne K (.ref C_BadTerm) (.ref C_Late) = some false) (k_BadTerm_Full : PySem.W.kitOne K (.ref C_BadTerm) (.ref C_Full) = some false) (k_BadTerm_OtherKnown : PySem.W.kitOne K (.ref C_BadTerm) (.ref C_OtherKnown) = some false) (k_BadTerm_NoText : PySem.W.kitOne K (.ref C_BadTerm) (.ref C_NoText) = some false) (k_BadTerm_NoRow : PySem.W.kitOne K (.ref C_BadTerm) (.ref C_NoRow) = some false) (k_BadTerm_BadTerm : PySem.W.kitOne K (.ref C_BadTerm) (.ref C_BadTerm) = some true) (p_BadTerm : PySem.W.keepIn K (.ref C_BadTerm) = true) : Df P w K mg base 3 "_law_classes" [] (sp_law_classes K) := by
  have d_law_kinds := m_law_kinds.df
  refine T.df sc_law_classes (fun vs H Q E h => ?_) (fun f cdv A outer s H vs Q E hr h => ?_)
  · obtain ⟨rfl, q⟩ := h
    rfl
  · obtain ⟨rfl, q⟩ := h
    have hu := hr.units
    refine ⟨_, (@pss_cons _ _ _ _ _ (@ps_set _ _ 0 _ _ _ _ sc_law_classes.nd rfl (by first | exact Or.inl rfl | exact Or.inr rfl) (@pe_lst _ _ _ _ (@pa_cons _ _ _ _ _ (pe_exc z_BadFloor p_BadFloor (@pa_cons _ _ _ _ _ pe_str pa_nil rfl)) (@pa_cons _ _ _ _ _ (pe_exc z_BadCells p_BadCells (@pa_cons _ _ _ _ _ pe_str pa_nil rfl)) (@pa_cons _ _ _ _ _ (pe_exc z_BadFraction p_BadFraction (@pa_cons _ _ _ _ _ pe_str pa_nil rfl)) (@pa_cons _ _ _ _ _ (pe_exc z_BadShares p_BadShares (@pa_cons _ _ _ _ _ pe_str pa_nil rfl)) (@pa_cons _ _ _ _ _ (pe_exc z_TooLittle p_TooLittle (@pa_cons _ _ _ _ _ pe_str pa_nil rfl)) (@pa_cons _ _ _ _ _ (pe_exc z_TooFine p_TooFine (@pa_cons _ _ _ _ _ pe_str pa_nil rfl)) pa_nil rfl) rfl) rfl) rfl) rfl) rfl)) rfl (by first | exact .inl rfl | exact .inr rfl))
      (@pss_cons _ _ _ _ _ (@ps_set _ _ 0 _ _ _ _ sc_law_classes.nd rfl (by first | exact Or.inl rfl | exact Or.inr rfl) (pe_op op_cat (pv 0) (@pe_lst _ _ _ _ (@pa_cons _ _ _ _ _ (pe_dfX X_BadPaper hr (@pa_cons _ _ _ _ _ pe_str (@pa_cons _ _ _ _ _ pe_int pa_nil rfl) rfl)) (@pa_cons _ _ _ _ _ (pe_dfX X_Falls hr (@pa_cons _ _ _ _ _ pe_str (@pa_cons _ _ _ _ _ pe_str (@pa_cons _ _ _ _ _ pe_str pa_nil rfl) rfl) rfl)) (@pa_cons _ _ _ _ _ (pe_exc z_Late p_Late (@pa_cons _ _ _ _ _ pe_str pa_nil rfl)) (@pa_cons _ _ _ _ _ (pe_exc z_Full p_Full (@pa_cons _ _ _ _ _ pe_str pa_nil rfl)) (@pa_cons _ _ _ _ _ (pe_exc z_OtherKnown p_OtherKnown (@pa_cons _ _ _ _ _ pe_str pa_nil rfl)) (@pa_cons _ _ _ _ _ (pe_exc z_NoText p_NoText (@pa_cons _ _ _ _ _ pe_str pa_nil rfl)) pa_nil rfl) rfl) rfl) rfl) rfl) rfl))) rfl (by first | exact .inl rfl | exact .inr rfl))
      (@pss_cons _ _ _ _ _ (@ps_set _ _ 0 _ _ _ _ sc_law_classes.nd rfl (by first | exact Or.inl rfl | exact Or.inr rfl) (pe_op op_cat (pv 0) (@pe_lst _ _ _ _ (@pa_cons _ _ _ _ _ (pe_exc z_NoRow p_NoRow (@pa_cons _ _ _ _ _ pe_str pa_nil rfl)) (@pa_cons _ _ _ _ _ (pe_exc z_BadTerm p_BadTerm (@pa_cons _ _ _ _ _ pe_str pa_nil rfl)) pa_nil rfl) rfl))) rfl (by first | exact .inl rfl | exact .inr rfl))
      (@pss_cons _ _ _ _ _ (ps_for PassesOwn.never rfl (pi_range1 (by rfl) B.range (@pa_cons _ _ _ _ _ pe_int pa_nil rfl)) (pg_name (i := 1) sc_law_classes.nd rfl (by first | exact Or.inl rfl | exact Or.inr rfl)) (@pss_cons _ _ _ _ _ (ps_if ((pw_or (pt_not (pt_val (pe_callB call_isxE (by rfl) B.isinstance boot_isinstance (@pa_cons _ _ _ _ _ (@pe_ix _ _ _ _ _ _ _ ix_list (pv 0) (pv 1) (fun _ _ => rfl)) (@pa_cons _ _ _ _ _ (pe_glob (v := .ref C_LandError) (by rfl) z_LandError.mg rfl) pa_nil rfl) rfl)))) (pw_or1 (pt_not (pt_val (pe_callB call_isxE (by rfl) B.isinstance boot_isinstance (@pa_cons _ _ _ _ _ (@pe_ix _ _ _ _ _ _ _ ix_list (pv 0) (pv 1) (fun _ _ => rfl)) (@pa_cons _ _ _ _ _ (pe_bltn (x := "ValueError") (v := .ty "ValueError") (by rfl) b_ValueError (by decide +kernel) rfl) pa_nil rfl) rfl)))))).pt) (@pss_one _ _ _ (@ps_ret _ _ _ _ pe_bl)) pss_nil)
      (@pss_one _ _ _ (ps_if (pt_cmpR (op_neD hu) (pe_df d_law_kinds hr (@pa_cons _ _ _ _ _ (@pe_ix _ _ _ _ _ _ _ ix_list (pv 0) (pv 1) (fun _ _ => rfl)) pa_nil rfl)) (pe_lcomp ["_law_j"] [("_law_k", 1)] (clOf _ ["_law_k"]) rfl (by rfl) rfl (by decide +kernel) (by decide +kernel) (clOf_cells (by rfl)) (kin_of (by rfl)) (fun p hp => by
        cases hp with
        | head => exact ⟨rfl, rfl⟩
        | tail _ hp => exact (by cases hp)) (fun p hp => by
        cases hp with
        | head => exact rfl
        | tail _ hp => exact (by cases hp)) (wk_name (by decide)) (pi_range1 (by rfl) B.range (@pa_cons _ _ _ _ _ pe_int pa_nil rfl)) (fun _ _ _ _ => pg_name (i := 0) (show (["_law_j", "_law_k"] : List Str).Nodup by decide +kernel) rfl (Or.inl rfl) (Or.inr rfl)) (fun _ _ _ _ => pifs_nil) (fun _ _ _ _ => (pe_cmpR op_eq (pv 0) (pv 1) (nomark _)))) (nomark _)) (@pss_one _ _ _ (@ps_ret _ _ _ _ pe_bl)) pss_nil))))
      (@pss_one _ _ _ (@ps_ret _ _ _ _ pe_bl)))))), ?_⟩
    refine ⟨len_ok rfl, fun x0 hx0 => ?_⟩
    have s0 := Same.upd (o := ExO x0 C_BadFloor) hx0
    have h0 : (upd H x0 (ExO x0 C_BadFloor)) x0 = some (ExO x0 C_BadFloor) := upd_same
    generalize (upd H x0 (ExO x0 C_BadFloor)) = H0 at s0 h0 ⊢
    refine ⟨len_ok rfl, fun x1 hx1 => ?_⟩
    have s1 := Same.upd (o := ExO x1 C_BadCells) hx1
    have h1 : (upd H0 x1 (ExO x1 C_BadCells)) x1 = some (ExO x1 C_BadCells) := upd_same
    generalize (upd H0 x1 (ExO x1 C_BadCells)) = H1 at s1 h1 ⊢
    refine ⟨len_ok rfl, fun x2 hx2 => ?_⟩
    have s2 := Same.upd (o := ExO x2 C_BadFraction) hx2
    have h2 : (upd H1 x2 (ExO x2 C_BadFraction)) x2 = some (ExO x2 C_BadFraction) := upd_same
    generalize (upd H1 x2 (ExO x2 C_BadFraction)) = H2 at s2 h2 ⊢
    refine ⟨len_ok rfl, fun x3 hx3 => ?_⟩
    have s3 := Same.upd (o := ExO x3 C_BadShares) hx3
    have h3 : (upd H2 x3 (ExO x3 C_BadShares)) x3 = some (ExO x3 C_BadShares) := upd_same
    generalize (upd H2 x3 (ExO x3 C_BadShares)) = H3 at s3 h3 ⊢
    refine ⟨len_ok rfl, fun x4 hx4 => ?_⟩
    have s4 := Same.upd (o := ExO x4 C_TooLittle) hx4
    have h4 : (upd H3 x4 (ExO x4 C_TooLittle)) x4 = some (ExO x4 C_TooLittle) := upd_same
    generalize (upd H3 x4 (ExO x4 C_TooLittle)) = H4 at s4 h4 ⊢
    refine ⟨len_ok rfl, fun x5 hx5 => ?_⟩
    have s5 := Same.upd (o := ExO x5 C_TooFine) hx5
    have h5 : (upd H4 x5 (ExO x5 C_TooFine)) x5 = some (ExO x5 C_TooFine) := upd_same
    generalize (upd H4 x5 (ExO x5 C_TooFine)) = H5 at s5 h5 ⊢
    refine ⟨len_ok rfl, fun l1 hl1 => ?_⟩
    have sl1 := Same.upd (o := .lst [.ref x0, .ref x1, .ref x2, .ref x3, .ref x4, .ref x5]) hl1
    have e1 : (upd H5 l1 (.lst [.ref x0, .ref x1, .ref x2, .ref x3, .ref x4, .ref x5])) l1 = some (.lst [.ref x0, .ref x1, .ref x2, .ref x3, .ref x4, .ref x5]) := upd_same
    generalize (upd H5 l1 (.lst [.ref x0, .ref x1, .ref x2, .ref x3, .ref x4, .ref x5])) = L1 at sl1 e1 ⊢
    refine ⟨_, rfl, ?_⟩
    refine ⟨len_ok rfl, fun x6 hx6 => ⟨x6, _, _, rfl, upd_same, fun d6 hd6 ne6 => ⟨rfl, ?_⟩⟩⟩
    have hd6' : L1 d6 = none := by rw [upd_ne ne6] at hd6; exact hd6
    rw [upd_upd]
    have s6 : Same L1 (upd (upd L1 x6 (XO x6 C_BadPaper (some d6))) d6 (XD d6 [("place", .int 3)])) := (Same.upd hx6).trans (Same.upd (by rw [upd_ne ne6]; exact hd6'))
    have h6 : (upd (upd L1 x6 (XO x6 C_BadPaper (some d6))) d6 (XD d6 [("place", .int 3)])) x6 = some (XO x6 C_BadPaper (some d6)) := upd_at2 ne6
    generalize (upd (upd L1 x6 (XO x6 C_BadPaper (some d6))) d6 (XD d6 [("place", .int 3)])) = H6 at s6 h6 ⊢
    refine ⟨len_ok rfl, fun x7 hx7 => ⟨x7, _, _, _, rfl, upd_same, fun d7 hd7 ne7 => ⟨rfl, ?_⟩⟩⟩
    have hd7' : H6 d7 = none := by rw [upd_ne ne7] at hd7; exact hd7
    rw [upd_upd]
    have s7 : Same H6 (upd (upd H6 x7 (XO x7 C_Falls (some d7))) d7 (XD d7 [("who", .str (Str.ofString "")), ("word", .str (Str.ofString "waste"))])) := (Same.upd hx7).trans (Same.upd (by rw [upd_ne ne7]; exact hd7'))
    have h7 : (upd (upd H6 x7 (XO x7 C_Falls (some d7))) d7 (XD d7 [("who", .str (Str.ofString "")), ("word", .str (Str.ofString "waste"))])) x7 = some (XO x7 C_Falls (some d7)) := upd_at2 ne7
    generalize (upd (upd H6 x7 (XO x7 C_Falls (some d7))) d7 (XD d7 [("who", .str (Str.ofString "")), ("word", .str (Str.ofString "waste"))])) = H7 at s7 h7 ⊢
    refine ⟨len_ok rfl, fun x8 hx8 => ?_⟩
    have s8 := Same.upd (o := ExO x8 C_Late) hx8
    have h8 : (upd H7 x8 (ExO x8 C_Late)) x8 = some (ExO x8 C_Late) := upd_same
    generalize (upd H7 x8 (ExO x8 C_Late)) = H8 at s8 h8 ⊢
    refine ⟨len_ok rfl, fun x9 hx9 => ?_⟩
    have s9 := Same.upd (o := ExO x9 C_Full) hx9
    have h9 : (upd H8 x9 (ExO x9 C_Full)) x9 = some (ExO x9 C_Full) := upd_same
    generalize (upd H8 x9 (ExO x9 C_Full)) = H9 at s9 h9 ⊢
    refine ⟨len_ok rfl, fun x10 hx10 => ?_⟩
    have s10 := Same.upd (o := ExO x10 C_OtherKnown) hx10
    have h10 : (upd H9 x10 (ExO x10 C_OtherKnown)) x10 = some (ExO x10 C_OtherKnown) := upd_same
    generalize (upd H9 x10 (ExO x10 C_OtherKnown)) = H10 at s10 h10 ⊢
    refine ⟨len_ok rfl, fun x11 hx11 => ?_⟩
    have s11 := Same.upd (o := ExO x11 C_NoText) hx11
    have h11 : (upd H10 x11 (ExO x11 C_NoText)) x11 = some (ExO x11 C_NoText) := upd_same
    generalize (upd H10 x11 (ExO x11 C_NoText)) = H11 at s11 h11 ⊢
    refine ⟨len_ok rfl, fun l2 hl2 => ?_⟩
    have sl2 := Same.upd (o := .lst [.ref x6, .ref x7, .ref x8, .ref x9, .ref x10, .ref x11]) hl2
    have p2 := (s6.trans (s7.trans (s8.trans (s9.trans (s10.trans (s11)))))) _ _ e1
    refine ⟨l1, l2, _, _, rfl, rfl, sl2 _ _ p2, upd_same, len_ok rfl, fun l3 hl3 => ?_⟩
    have sl3 := Same.upd (o := .lst [.ref x0, .ref x1, .ref x2, .ref x3, .ref x4, .ref x5, .ref x6, .ref x7, .ref x8, .ref x9, .ref x10, .ref x11]) hl3
    have e3 : (upd (upd H11 l2 (.lst [.ref x6, .ref x7, .ref x8, .ref x9, .ref x10, .ref x11])) l3 (.lst [.ref x0, .ref x1, .ref x2, .ref x3, .ref x4, .ref x5, .ref x6, .ref x7, .ref x8, .ref x9, .ref x10, .ref x11])) l3 = some (.lst [.ref x0, .ref x1, .ref x2, .ref x3, .ref x4, .ref x5, .ref x6, .ref x7, .ref x8, .ref x9, .ref x10, .ref x11]) := upd_same
    have sc3 := sl2.trans sl3
    show tSeq _ _ _ _ (upd (upd H11 l2 (.lst [.ref x6, .ref x7, .ref x8, .ref x9, .ref x10, .ref x11])) l3 (.lst [.ref x0, .ref x1, .ref x2, .ref x3, .ref x4, .ref x5, .ref x6, .ref x7, .ref x8, .ref x9, .ref x10, .ref x11]))
    generalize (upd (upd H11 l2 (.lst [.ref x6, .ref x7, .ref x8, .ref x9, .ref x10, .ref x11])) l3 (.lst [.ref x0, .ref x1, .ref x2, .ref x3, .ref x4, .ref x5, .ref x6, .ref x7, .ref x8, .ref x9, .ref x10, .ref x11])) = L3 at sl3 sc3 e3 ⊢
    refine ⟨_, rfl, ?_⟩
    refine ⟨len_ok rfl, fun x12 hx12 => ?_⟩
    have s12 := Same.upd (o := ExO x12 C_NoRow) hx12
    have h12 : (upd L3 x12 (ExO x12 C_NoRow)) x12 = some (ExO x12 C_NoRow) := upd_same
    generalize (upd L3 x12 (ExO x12 C_NoRow)) = H12 at s12 h12 ⊢
    refine ⟨len_ok rfl, fun x13 hx13 => ?_⟩
    have s13 := Same.upd (o := ExO x13 C_BadTerm) hx13
    have h13 : (upd H12 x13 (ExO x13 C_BadTerm)) x13 = some (ExO x13 C_BadTerm) := upd_same
    generalize (upd H12 x13 (ExO x13 C_BadTerm)) = H13 at s13 h13 ⊢
    refine ⟨len_ok rfl, fun l4 hl4 => ?_⟩
    have sl4 := Same.upd (o := .lst [.ref x12, .ref x13]) hl4
    have p4 := (s12.trans (s13)) _ _ e3
    refine ⟨l3, l4, _, _, rfl, rfl, sl4 _ _ p4, upd_same, len_ok rfl, fun l5 hl5 => ?_⟩
    have sl5 := Same.upd (o := .lst [.ref x0, .ref x1, .ref x2, .ref x3, .ref x4, .ref x5, .ref x6, .ref x7, .ref x8, .ref x9, .ref x10, .ref x11, .ref x12, .ref x13]) hl5
    have e5 : (upd (upd H13 l4 (.lst [.ref x12, .ref x13])) l5 (.lst [.ref x0, .ref x1, .ref x2, .ref x3, .ref x4, .ref x5, .ref x6, .ref x7, .ref x8, .ref x9, .ref x10, .ref x11, .ref x12, .ref x13])) l5 = some (.lst [.ref x0, .ref x1, .ref x2, .ref x3, .ref x4, .ref x5, .ref x6, .ref x7, .ref x8, .ref x9, .ref x10, .ref x11, .ref x12, .ref x13]) := upd_same
    have sc5 := sl4.trans sl5
    show tSeq _ _ _ _ (upd (upd H13 l4 (.lst [.ref x12, .ref x13])) l5 (.lst [.ref x0, .ref x1, .ref x2, .ref x3, .ref x4, .ref x5, .ref x6, .ref x7, .ref x8, .ref x9, .ref x10, .ref x11, .ref x12, .ref x13]))
    generalize (upd (upd H13 l4 (.lst [.ref x12, .ref x13])) l5 (.lst [.ref x0, .ref x1, .ref x2, .ref x3, .ref x4, .ref x5, .ref x6, .ref x7, .ref x8, .ref x9, .ref x10, .ref x11, .ref x12, .ref x13])) = L5 at sl5 sc5 e5 ⊢
    have T15 := sc5
    have f0 := (s1.trans (s2.trans (s3.trans (s4.trans (s5.trans (sl1.trans (s6.trans (s7.trans (s8.trans (s9.trans (s10.trans (s11.trans (sc3.trans (s12.trans (s13.trans (sc5)))))))))))))))) _ _ h0
    have f1 := (s2.trans (s3.trans (s4.trans (s5.trans (sl1.trans (s6.trans (s7.trans (s8.trans (s9.trans (s10.trans (s11.trans (sc3.trans (s12.trans (s13.trans (sc5))))))))))))))) _ _ h1
    have f2 := (s3.trans (s4.trans (s5.trans (sl1.trans (s6.trans (s7.trans (s8.trans (s9.trans (s10.trans (s11.trans (sc3.trans (s12.trans (s13.trans (sc5)))))))))))))) _ _ h2
    have f3 := (s4.trans (s5.trans (sl1.trans (s6.trans (s7.trans (s8.trans (s9.trans (s10.trans (s11.trans (sc3.trans (s12.trans (s13.trans (sc5))))))))))))) _ _ h3
    have f4 := (s5.trans (sl1.trans (s6.trans (s7.trans (s8.trans (s9.trans (s10.trans (s11.trans (sc3.trans (s12.trans (s13.trans (sc5)))))))))))) _ _ h4
    have f5 := (sl1.trans (s6.trans (s7.trans (s8.trans (s9.trans (s10.trans (s11.trans (sc3.trans (s12.trans (s13.trans (sc5))))))))))) _ _ h5
    have f6 := (s7.trans (s8.trans (s9.trans (s10.trans (s11.trans (sc3.trans (s12.trans (s13.trans (sc5))))))))) _ _ h6
    have f7 := (s8.trans (s9.trans (s10.trans (s11.trans (sc3.trans (s12.trans (s13.trans (sc5)))))))) _ _ h7
    have f8 := (s9.trans (s10.trans (s11.trans (sc3.trans (s12.trans (s13.trans (sc5))))))) _ _ h8
    have f9 := (s10.trans (s11.trans (sc3.trans (s12.trans (s13.trans (sc5)))))) _ _ h9
    have f10 := (s11.trans (sc3.trans (s12.trans (s13.trans (sc5))))) _ _ h10
    have f11 := (sc3.trans (s12.trans (s13.trans (sc5)))) _ _ h11
    have f12 := (s13.trans (sc5)) _ _ h12
    have f13 := (sc5) _ _ h13
    have SS := s0.trans (s1.trans (s2.trans (s3.trans (s4.trans (s5.trans (sl1.trans (s6.trans (s7.trans (s8.trans (s9.trans (s10.trans (s11.trans (sc3.trans (s12.trans (s13.trans (sc5))))))))))))))))
    clear h0 h1 h2 h3 h4 h5 h6 h7 h8 h9 h10 h11 h12 h13 e1 e3 p2 p4
    have at14 : ∀ i, i < 14 → ∃ v, ([.ref x0, .ref x1, .ref x2, .ref x3, .ref x4, .ref x5, .ref x6, .ref x7, .ref x8, .ref x9, .ref x10, .ref x11, .ref x12, .ref x13] : List V)[i]? = some v ∧ KX K mg L5 v i := by
      intro i hi
      rcases (show i = 0 ∨ i = 1 ∨ i = 2 ∨ i = 3 ∨ i = 4 ∨ i = 5 ∨ i = 6 ∨ i = 7 ∨ i = 8 ∨ i = 9 ∨ i = 10 ∨ i = 11 ∨ i = 12 ∨ i = 13 by omega) with rfl | rfl | rfl | rfl | rfl | rfl | rfl | rfl | rfl | rfl | rfl | rfl | rfl | rfl
      · exact ⟨_, rfl, x0, C_BadFloor, rfl, .inl f0, a_BadFloor, (kcl z_LandError k_BadFloor_LandError), t_BadFloor_ValueError, ⟨_, _, _, _, _, _, _, _, _, _, _, _, _, _, rfl, kcl z_BadFloor k_BadFloor_BadFloor, kcl z_BadCells k_BadFloor_BadCells, kcl z_BadFraction k_BadFloor_BadFraction, kcl z_BadShares k_BadFloor_BadShares, kcl z_TooLittle k_BadFloor_TooLittle, kcl z_TooFine k_BadFloor_TooFine, kclN z_BadPaper k_BadFloor_BadPaper, kclN z_Falls k_BadFloor_Falls, kcl z_Late k_BadFloor_Late, kcl z_Full k_BadFloor_Full, kcl z_OtherKnown k_BadFloor_OtherKnown, kcl z_NoText k_BadFloor_NoText, kcl z_NoRow k_BadFloor_NoRow, kcl z_BadTerm k_BadFloor_BadTerm⟩⟩
      · exact ⟨_, rfl, x1, C_BadCells, rfl, .inl f1, a_BadCells, (kcl z_LandError k_BadCells_LandError), t_BadCells_ValueError, ⟨_, _, _, _, _, _, _, _, _, _, _, _, _, _, rfl, kcl z_BadFloor k_BadCells_BadFloor, kcl z_BadCells k_BadCells_BadCells, kcl z_BadFraction k_BadCells_BadFraction, kcl z_BadShares k_BadCells_BadShares, kcl z_TooLittle k_BadCells_TooLittle, kcl z_TooFine k_BadCells_TooFine, kclN z_BadPaper k_BadCells_BadPaper, kclN z_Falls k_BadCells_Falls, kcl z_Late k_BadCells_Late, kcl z_Full k_BadCells_Full, kcl z_OtherKnown k_BadCells_OtherKnown, kcl z_NoText k_BadCells_NoText, kcl z_NoRow k_BadCells_NoRow, kcl z_BadTerm k_BadCells_BadTerm⟩⟩
      · exact ⟨_, rfl, x2, C_BadFraction, rfl, .inl f2, a_BadFraction, (kcl z_LandError k_BadFraction_LandError), t_BadFraction_ValueError, ⟨_, _, _, _, _, _, _, _, _, _, _, _, _, _, rfl, kcl z_BadFloor k_BadFraction_BadFloor, kcl z_BadCells k_BadFraction_BadCells, kcl z_BadFraction k_BadFraction_BadFraction, kcl z_BadShares k_BadFraction_BadShares, kcl z_TooLittle k_BadFraction_TooLittle, kcl z_TooFine k_BadFraction_TooFine, kclN z_BadPaper k_BadFraction_BadPaper, kclN z_Falls k_BadFraction_Falls, kcl z_Late k_BadFraction_Late, kcl z_Full k_BadFraction_Full, kcl z_OtherKnown k_BadFraction_OtherKnown, kcl z_NoText k_BadFraction_NoText, kcl z_NoRow k_BadFraction_NoRow, kcl z_BadTerm k_BadFraction_BadTerm⟩⟩
      · exact ⟨_, rfl, x3, C_BadShares, rfl, .inl f3, a_BadShares, (kcl z_LandError k_BadShares_LandError), t_BadShares_ValueError, ⟨_, _, _, _, _, _, _, _, _, _, _, _, _, _, rfl, kcl z_BadFloor k_BadShares_BadFloor, kcl z_BadCells k_BadShares_BadCells, kcl z_BadFraction k_BadShares_BadFraction, kcl z_BadShares k_BadShares_BadShares, kcl z_TooLittle k_BadShares_TooLittle, kcl z_TooFine k_BadShares_TooFine, kclN z_BadPaper k_BadShares_BadPaper, kclN z_Falls k_BadShares_Falls, kcl z_Late k_BadShares_Late, kcl z_Full k_BadShares_Full, kcl z_OtherKnown k_BadShares_OtherKnown, kcl z_NoText k_BadShares_NoText, kcl z_NoRow k_BadShares_NoRow, kcl z_BadTerm k_BadShares_BadTerm⟩⟩
      · exact ⟨_, rfl, x4, C_TooLittle, rfl, .inl f4, a_TooLittle, (kcl z_LandError k_TooLittle_LandError), t_TooLittle_ValueError, ⟨_, _, _, _, _, _, _, _, _, _, _, _, _, _, rfl, kcl z_BadFloor k_TooLittle_BadFloor, kcl z_BadCells k_TooLittle_BadCells, kcl z_BadFraction k_TooLittle_BadFraction, kcl z_BadShares k_TooLittle_BadShares, kcl z_TooLittle k_TooLittle_TooLittle, kcl z_TooFine k_TooLittle_TooFine, kclN z_BadPaper k_TooLittle_BadPaper, kclN z_Falls k_TooLittle_Falls, kcl z_Late k_TooLittle_Late, kcl z_Full k_TooLittle_Full, kcl z_OtherKnown k_TooLittle_OtherKnown, kcl z_NoText k_TooLittle_NoText, kcl z_NoRow k_TooLittle_NoRow, kcl z_BadTerm k_TooLittle_BadTerm⟩⟩
      · exact ⟨_, rfl, x5, C_TooFine, rfl, .inl f5, a_TooFine, (kcl z_LandError k_TooFine_LandError), t_TooFine_ValueError, ⟨_, _, _, _, _, _, _, _, _, _, _, _, _, _, rfl, kcl z_BadFloor k_TooFine_BadFloor, kcl z_BadCells k_TooFine_BadCells, kcl z_BadFraction k_TooFine_BadFraction, kcl z_BadShares k_TooFine_BadShares, kcl z_TooLittle k_TooFine_TooLittle, kcl z_TooFine k_TooFine_TooFine, kclN z_BadPaper k_TooFine_BadPaper, kclN z_Falls k_TooFine_Falls, kcl z_Late k_TooFine_Late, kcl z_Full k_TooFine_Full, kcl z_OtherKnown k_TooFine_OtherKnown, kcl z_NoText k_TooFine_NoText, kcl z_NoRow k_TooFine_NoRow, kcl z_BadTerm k_TooFine_BadTerm⟩⟩
      · exact ⟨_, rfl, x6, C_BadPaper, rfl, .inr ⟨_, f6⟩, a_BadPaper, (kcl z_LandError k_BadPaper_LandError), t_BadPaper_ValueError, ⟨_, _, _, _, _, _, _, _, _, _, _, _, _, _, rfl, kcl z_BadFloor k_BadPaper_BadFloor, kcl z_BadCells k_BadPaper_BadCells, kcl z_BadFraction k_BadPaper_BadFraction, kcl z_BadShares k_BadPaper_BadShares, kcl z_TooLittle k_BadPaper_TooLittle, kcl z_TooFine k_BadPaper_TooFine, kclN z_BadPaper k_BadPaper_BadPaper, kclN z_Falls k_BadPaper_Falls, kcl z_Late k_BadPaper_Late, kcl z_Full k_BadPaper_Full, kcl z_OtherKnown k_BadPaper_OtherKnown, kcl z_NoText k_BadPaper_NoText, kcl z_NoRow k_BadPaper_NoRow, kcl z_BadTerm k_BadPaper_BadTerm⟩⟩
      · exact ⟨_, rfl, x7, C_Falls, rfl, .inr ⟨_, f7⟩, a_Falls, (kcl z_LandError k_Falls_LandError), t_Falls_ValueError, ⟨_, _, _, _, _, _, _, _, _, _, _, _, _, _, rfl, kcl z_BadFloor k_Falls_BadFloor, kcl z_BadCells k_Falls_BadCells, kcl z_BadFraction k_Falls_BadFraction, kcl z_BadShares k_Falls_BadShares, kcl z_TooLittle k_Falls_TooLittle, kcl z_TooFine k_Falls_TooFine, kclN z_BadPaper k_Falls_BadPaper, kclN z_Falls k_Falls_Falls, kcl z_Late k_Falls_Late, kcl z_Full k_Falls_Full, kcl z_OtherKnown k_Falls_OtherKnown, kcl z_NoText k_Falls_NoText, kcl z_NoRow k_Falls_NoRow, kcl z_BadTerm k_Falls_BadTerm⟩⟩
      · exact ⟨_, rfl, x8, C_Late, rfl, .inl f8, a_Late, (kcl z_LandError k_Late_LandError), t_Late_ValueError, ⟨_, _, _, _, _, _, _, _, _, _, _, _, _, _, rfl, kcl z_BadFloor k_Late_BadFloor, kcl z_BadCells k_Late_BadCells, kcl z_BadFraction k_Late_BadFraction, kcl z_BadShares k_Late_BadShares, kcl z_TooLittle k_Late_TooLittle, kcl z_TooFine k_Late_TooFine, kclN z_BadPaper k_Late_BadPaper, kclN z_Falls k_Late_Falls, kcl z_Late k_Late_Late, kcl z_Full k_Late_Full, kcl z_OtherKnown k_Late_OtherKnown, kcl z_NoText k_Late_NoText, kcl z_NoRow k_Late_NoRow, kcl z_BadTerm k_Late_BadTerm⟩⟩
      · exact ⟨_, rfl, x9, C_Full, rfl, .inl f9, a_Full, (kcl z_LandError k_Full_LandError), t_Full_ValueError, ⟨_, _, _, _, _, _, _, _, _, _, _, _, _, _, rfl, kcl z_BadFloor k_Full_BadFloor, kcl z_BadCells k_Full_BadCells, kcl z_BadFraction k_Full_BadFraction, kcl z_BadShares k_Full_BadShares, kcl z_TooLittle k_Full_TooLittle, kcl z_TooFine k_Full_TooFine, kclN z_BadPaper k_Full_BadPaper, kclN z_Falls k_Full_Falls, kcl z_Late k_Full_Late, kcl z_Full k_Full_Full, kcl z_OtherKnown k_Full_OtherKnown, kcl z_NoText k_Full_NoText, kcl z_NoRow k_Full_NoRow, kcl z_BadTerm k_Full_BadTerm⟩⟩
      · exact ⟨_, rfl, x10, C_OtherKnown, rfl, .inl f10, a_OtherKnown, (kcl z_LandError k_OtherKnown_LandError), t_OtherKnown_ValueError, ⟨_, _, _, _, _, _, _, _, _, _, _, _, _, _, rfl, kcl z_BadFloor k_OtherKnown_BadFloor, kcl z_BadCells k_OtherKnown_BadCells, kcl z_BadFraction k_OtherKnown_BadFraction, kcl z_BadShares k_OtherKnown_BadShares, kcl z_TooLittle k_OtherKnown_TooLittle, kcl z_TooFine k_OtherKnown_TooFine, kclN z_BadPaper k_OtherKnown_BadPaper, kclN z_Falls k_OtherKnown_Falls, kcl z_Late k_OtherKnown_Late, kcl z_Full k_OtherKnown_Full, kcl z_OtherKnown k_OtherKnown_OtherKnown, kcl z_NoText k_OtherKnown_NoText, kcl z_NoRow k_OtherKnown_NoRow, kcl z_BadTerm k_OtherKnown_BadTerm⟩⟩
      · exact ⟨_, rfl, x11, C_NoText, rfl, .inl f11, a_NoText, (kcl z_LandError k_NoText_LandError), t_NoText_ValueError, ⟨_, _, _, _, _, _, _, _, _, _, _, _, _, _, rfl, kcl z_BadFloor k_NoText_BadFloor, kcl z_BadCells k_NoText_BadCells, kcl z_BadFraction k_NoText_BadFraction, kcl z_BadShares k_NoText_BadShares, kcl z_TooLittle k_NoText_TooLittle, kcl z_TooFine k_NoText_TooFine, kclN z_BadPaper k_NoText_BadPaper, kclN z_Falls k_NoText_Falls, kcl z_Late k_NoText_Late, kcl z_Full k_NoText_Full, kcl z_OtherKnown k_NoText_OtherKnown, kcl z_NoText k_NoText_NoText, kcl z_NoRow k_NoText_NoRow, kcl z_BadTerm k_NoText_BadTerm⟩⟩
      · exact ⟨_, rfl, x12, C_NoRow, rfl, .inl f12, a_NoRow, (kcl z_LandError k_NoRow_LandError), t_NoRow_ValueError, ⟨_, _, _, _, _, _, _, _, _, _, _, _, _, _, rfl, kcl z_BadFloor k_NoRow_BadFloor, kcl z_BadCells k_NoRow_BadCells, kcl z_BadFraction k_NoRow_BadFraction, kcl z_BadShares k_NoRow_BadShares, kcl z_TooLittle k_NoRow_TooLittle, kcl z_TooFine k_NoRow_TooFine, kclN z_BadPaper k_NoRow_BadPaper, kclN z_Falls k_NoRow_Falls, kcl z_Late k_NoRow_Late, kcl z_Full k_NoRow_Full, kcl z_OtherKnown k_NoRow_OtherKnown, kcl z_NoText k_NoRow_NoText, kcl z_NoRow k_NoRow_NoRow, kcl z_BadTerm k_NoRow_BadTerm⟩⟩
      · exact ⟨_, rfl, x13, C_BadTerm, rfl, .inl f13, a_BadTerm, (kcl z_LandError k_BadTerm_LandError), t_BadTerm_ValueError, ⟨_, _, _, _, _, _, _, _, _, _, _, _, _, _, rfl, kcl z_BadFloor k_BadTerm_BadFloor, kcl z_BadCells k_BadTerm_BadCells, kcl z_BadFraction k_BadTerm_BadFraction, kcl z_BadShares k_BadTerm_BadShares, kcl z_TooLittle k_BadTerm_TooLittle, kcl z_TooFine k_BadTerm_TooFine, kclN z_BadPaper k_BadTerm_BadPaper, kclN z_Falls k_BadTerm_Falls, kcl z_Late k_BadTerm_Late, kcl z_Full k_BadTerm_Full, kcl z_OtherKnown k_BadTerm_OtherKnown, kcl z_NoText k_BadTerm_NoText, kcl z_NoRow k_BadTerm_NoRow, kcl z_BadTerm k_BadTerm_BadTerm⟩⟩
    refine ⟨14, rfl, by decide, by decide, for_range (n := 14) (lo := 0) (fun i σ H2 => ∃ o1 : Option V, σ = [some (.ref l5), o1] ∧ Same L5 H2) ⟨none, rfl, Same.refl _⟩ ?_ ?_⟩
    · rintro i σ H2 hi ⟨o1, rfl, s⟩
      obtain ⟨v, hv, x, C, rfl, hx, A, kL, kV, kb⟩ := at14 i hi
      have hx2 := hx.same s
      have hat : atI [V.ref x0, V.ref x1, V.ref x2, V.ref x3, V.ref x4, V.ref x5, V.ref x6, V.ref x7, V.ref x8, V.ref x9, V.ref x10, V.ref x11, V.ref x12, V.ref x13] (0 + (i : Int)) = some (.ref x) := by
        rw [show (0 : Int) + (i : Int) = ((i : Nat) : Int) by omega]
        exact atI_nat hv
      rw [clsV_eq z_LandError] at kL
      refine ⟨_, rfl, _, rfl, l5, _, _, _, rfl, rfl, SqL.of (s _ _ e5), hat, x, C, .ref C_LandError, _, true, rfl, hx2, A, rfl, (fun _ h => h), kL, _, rfl, iteF ?_⟩
      refine ⟨_, rfl, _, rfl, l5, _, _, _, rfl, rfl, SqL.of (s _ _ e5), hat, x, C, .ty "ValueError", _, true, rfl, hx2, A, rfl, (fun _ h => h), kV, _, rfl, iteF ?_⟩
      refine ⟨_, rfl, _, rfl, l5, _, _, _, rfl, rfl, SqL.of (s _ _ e5), hat, x, C, only i, rfl, hx2, A, kb, fun lk H3 s3 h3 => ?_⟩
      refine ⟨14, rfl, by decide, by decide, fun A1 hA1 => ?_⟩
      refine compR (n := 14) (lo := 0) (fun j acc H4 => H4 = upd H3 A1 (.lst acc) ∧ acc = (List.range j).map fun k : Nat => V.bl (decide (k = i))) ⟨rfl, rfl⟩ ?_ ?_
      · rintro j acc H4 hj ⟨rfl, rfl⟩
        refine ⟨_, rfl, _, rfl, rfl, upd_same, small1000 (by rw [List.length_map, List.length_range]; omega), by rw [upd_upd], ?_⟩
        rw [List.range_succ, List.map_append]
        have e : decide (V.int (0 + (j : Int)) = V.int (0 + (i : Int))) = decide (j = i) := by
          rw [decide_eq_decide]
          exact ⟨fun z => by have := V.int.inj z; omega, fun z => by rw [z]⟩
        rw [e]
        rfl
      · rintro acc H4 ⟨rfl, rfl⟩
        have eo : ((List.range 14).map fun k : Nat => V.bl (decide (k = i))) = (only i).map V.bl := by
          unfold only
          rw [List.map_map]
          rfl
        rw [eo]
        have s4 := Same.upd (o := .lst ((only i).map V.bl)) hA1
        refine ⟨.list ((only i).map PyData.bool), .list ((only i).map PyData.bool), IsD.lst (SqL.of (s4 _ _ h3)) (isDs_bls _), IsD.lst (SqL.of upd_same) (isDs_bls _), lay_bls _, lay_bls _, (by show PyData.depthAll _ + 1 ≤ 50; rw [dep_bls]; decide), _, rfl, ?_⟩
        rw [eqv_bls]
        refine iteF ?_
        exact ⟨_, rfl, s.trans (s3.trans s4)⟩
    · rintro σ H2 ⟨o1, rfl, s⟩
      exact q _ (SS.trans s)
noncomputable def sp_law_floor (K : PySem.W.Frag) : Sp := fun vs H Q _ => ∃ (x y : V) (n1 n2 : String), vs = [x, y] ∧ TyOf K H x (.type n1) ∧ TyOf K H y (.type n2) ∧ ((lenOk x && lenOk y) = true → ∀ l H', Same H H' → H' l = some (.tup [x, y]) → Q (.ref l) H') ∧ ((lenOk x && lenOk y) = false → ∀ l H', Same H H' → H' l = some (.lst [.str (Str.ofString "refused")]) → Q (.ref l) H')
theorem sc_law_floor : FnScope ["_law_wide", "_law_high", "_law_found"] ["_law_wide", "_law_high"] (defScope s_law_floor) := ⟨rfl, rfl, rfl, by decide +kernel, rfl, by decide +kernel, by decide +kernel⟩
set_option maxHeartbeats 4000000 in
theorem ok_law_floor {C_BadFloor : Addr} (T : Tx K mg "_law_floor" s_law_floor ["_law_wide", "_law_high"]) (B : Bn mg) (e_floor_of : DfE P w K mg base 3 "floor_of" ["wide", "high"] (sp_floor_of K mg)) (z_BadFloor : ExcCl K mg "BadFloor" C_BadFloor) (m_BadFloor_BadFloor : PySem.W.mroIn K C_BadFloor (.ref C_BadFloor) = some true) : Df P w K mg base 4 "_law_floor" ["_law_wide", "_law_high"] (sp_law_floor K) := by
  have d_floor_of := e_floor_of.df
  refine T.df sc_law_floor (fun vs H Q E h => ?_) (fun f cdv A outer s H vs Q E hr h => ?_)
  · obtain ⟨x, y, n1, n2, rfl, ty1, ty2, q, qE⟩ := h
    rfl
  · obtain ⟨x, y, n1, n2, rfl, ty1, ty2, q, qE⟩ := h
    refine ⟨_, (pss_cons (ps_set (i := 2) sc_law_floor.nd rfl (by first | exact Or.inl rfl | exact Or.inr rfl) (pe_lst pa_nil))
      (pss_cons (ps_tryA (i := 2) sc_law_floor.nd rfl (by first | exact Or.inl rfl | exact Or.inr rfl) e_floor_of hr (pa_cons (pv 0) (pa_cons (pv 1) pa_nil)) (fun _ => (pss_one (ps_set (i := 2) sc_law_floor.nd rfl (by first | exact Or.inl rfl | exact Or.inr rfl) (pe_lst (pa_cons pe_str pa_nil))))))
      (pss_one (ps_ret (pv 2))))), ?_⟩
    refine ⟨len_ok rfl, fun l0 hl0 => ?_⟩
    have s0 := Same.upd (o := .lst []) hl0
    generalize (upd H l0 (.lst [])) = H0 at s0 ⊢
    refine ⟨_, rfl, _, rfl, x, y, n1, n2, rfl, ty1.same s0, ty2.same s0, fun ok l hl => ?_, fun no => ⟨C_BadFloor, clsV_eq z_BadFloor, hit_mk z_BadFloor z_BadFloor m_BadFloor_BadFloor, ?_⟩⟩
    · exact ⟨_, rfl, q ok l _ (s0.trans (Same.upd hl)) upd_same⟩
    · refine ⟨len_ok rfl, fun l1 hl1 => ?_⟩
      exact ⟨_, rfl, qE no l1 _ (s0.trans (Same.upd hl1)) upd_same⟩
noncomputable def sp_law_floor_by_any (K : PySem.W.Frag) : Sp := fun vs H Q _ => ∃ (x y : V) (n1 n2 : String), vs = [x, y] ∧ TyOf K H x (.type n1) ∧ TyOf K H y (.type n2) ∧ ((lenOk x && lenOk y) = true → ∀ l H', Same H H' → H' l = some (.lst []) → Q (.ref l) H') ∧ ((lenOk x && lenOk y) = false → ∀ l H', Same H H' → H' l = some (.lst ((only 0).map V.bl)) → Q (.ref l) H')
theorem sc_law_floor_by_any : FnScope ["_law_wide", "_law_high", "_law_found", "_law_e"] ["_law_wide", "_law_high"] (defScope s_law_floor_by_any) := ⟨rfl, rfl, rfl, by decide +kernel, rfl, by decide +kernel, by decide +kernel⟩
set_option maxHeartbeats 4000000 in
theorem ok_law_floor_by_any {C_LandError : Addr} {C_BadFloor : Addr} {C_BadTerm : Addr} {C_BadCells : Addr} {C_BadFraction : Addr} {C_BadShares : Addr} {C_TooLittle : Addr} {C_TooFine : Addr} {C_Late : Addr} {C_Full : Addr} {C_OtherKnown : Addr} {C_NoText : Addr} {C_NoRow : Addr} {C_BadPaper : Addr} {C_Falls : Addr} (T : Tx K mg "_law_floor_by_any" s_law_floor_by_any ["_law_wide", "_law_high"]) (B : Bn mg) (e_floor_of : DfE P w K mg base 3 "floor_of" ["wide", "high"] (sp_floor_of K mg)) (m_law_kinds : DfM P w K mg base 1 "_law_kinds" ["_law_e"] (sp_law_kinds K mg)) (z_LandError : ExcCl K mg "LandError" C_LandError) (z_BadFloor : ExcCl K mg "BadFloor" C_BadFloor) (z_BadTerm : ExcCl K mg "BadTerm" C_BadTerm) (z_BadCells : ExcCl K mg "BadCells" C_BadCells) (z_BadFraction : ExcCl K mg "BadFraction" C_BadFraction) (z_BadShares : ExcCl K mg "BadShares" C_BadShares) (z_TooLittle : ExcCl K mg "TooLittle" C_TooLittle) (z_TooFine : ExcCl K mg "TooFine" C_TooFine) (z_Late : ExcCl K mg "Late" C_Late) (z_Full : ExcCl K mg "Full" C_Full) (z_OtherKnown : ExcCl K mg "OtherKnown" C_OtherKnown) (z_NoText : ExcCl K mg "NoText" C_NoText) (z_NoRow : ExcCl K mg "NoRow" C_NoRow) (z_BadPaper : ClsN mg "BadPaper" C_BadPaper) (z_Falls : ClsN mg "Falls" C_Falls) (a_BadFloor : ExcA K C_BadFloor) (m_BadFloor_LandError : PySem.W.mroIn K C_BadFloor (.ref C_LandError) = some true) (k_BadFloor_BadFloor : PySem.W.kitOne K (.ref C_BadFloor) (.ref C_BadFloor) = some true) (k_BadFloor_BadCells : PySem.W.kitOne K (.ref C_BadFloor) (.ref C_BadCells) = some false) (k_BadFloor_BadFraction : PySem.W.kitOne K (.ref C_BadFloor) (.ref C_BadFraction) = some false) (k_BadFloor_BadShares : PySem.W.kitOne K (.ref C_BadFloor) (.ref C_BadShares) = some false) (k_BadFloor_TooLittle : PySem.W.kitOne K (.ref C_BadFloor) (.ref C_TooLittle) = some false) (k_BadFloor_TooFine : PySem.W.kitOne K (.ref C_BadFloor) (.ref C_TooFine) = some false) (k_BadFloor_BadPaper : PySem.W.kitOne K (.ref C_BadFloor) (.ref C_BadPaper) = some false) (k_BadFloor_Falls : PySem.W.kitOne K (.ref C_BadFloor) (.ref C_Falls) = some false) (k_BadFloor_Late : PySem.W.kitOne K (.ref C_BadFloor) (.ref C_Late) = some false) (k_BadFloor_Full : PySem.W.kitOne K (.ref C_BadFloor) (.ref C_Full) = some false) (k_BadFloor_OtherKnown : PySem.W.kitOne K (.ref C_BadFloor) (.ref C_OtherKnown) = some false) (k_BadFloor_NoText : PySem.W.kitOne K (.ref C_BadFloor) (.ref C_NoText) = some false) (k_BadFloor_NoRow : PySem.W.kitOne K (.ref C_BadFloor) (.ref C_NoRow) = some false) (k_BadFloor_BadTerm : PySem.W.kitOne K (.ref C_BadFloor) (.ref C_BadTerm) = some false) : Df P w K mg base 4 "_law_floor_by_any" ["_law_wide", "_law_high"] (sp_law_floor_by_any K) := by
  have d_floor_of := e_floor_of.df
  have d_law_kinds := m_law_kinds.df
  refine T.df sc_law_floor_by_any (fun vs H Q E h => ?_) (fun f cdv A outer s H vs Q E hr h => ?_)
  · obtain ⟨x, y, n1, n2, rfl, ty1, ty2, q, qE⟩ := h
    rfl
  · obtain ⟨x, y, n1, n2, rfl, ty1, ty2, q, qE⟩ := h
    refine ⟨_, (pss_cons (ps_set (i := 2) sc_law_floor_by_any.nd rfl (by first | exact Or.inl rfl | exact Or.inr rfl) (pe_lst pa_nil))
      (pss_cons (ps_tryEs (m := 3) sc_law_floor_by_any.nd rfl rfl e_floor_of hr (pa_cons (pv 0) (pa_cons (pv 1) pa_nil)) (fun _ => (pss_one (ps_set (i := 2) sc_law_floor_by_any.nd rfl (by first | exact Or.inl rfl | exact Or.inr rfl) (pe_dfM m_law_kinds (hr.marked _) (pa_cons (pv 3) pa_nil))))))
      (pss_one (ps_ret (pv 2))))), ?_⟩
    refine ⟨len_ok rfl, fun l0 hl0 => ?_⟩
    have s0 := Same.upd (o := .lst []) hl0
    have e0 : (upd H l0 (.lst [])) l0 = some (.lst []) := upd_same
    generalize (upd H l0 (.lst [])) = H0 at s0 e0 ⊢
    refine ⟨_, rfl, _, rfl, x, y, n1, n2, rfl, ty1.same s0, ty2.same s0, fun ok l hl => ?_, fun no => ⟨C_BadFloor, clsV_eq z_BadFloor, hit_mk z_BadFloor z_LandError m_BadFloor_LandError, fun e he => ?_⟩⟩
    · have s1 := Same.upd (o := .tup [x, y]) hl
      exact ⟨_, rfl, q ok l0 _ (s0.trans s1) (s1 _ _ e0)⟩
    · refine ⟨_, rfl, e, C_BadFloor, only 0, rfl, .inl upd_same, a_BadFloor, ⟨_, _, _, _, _, _, _, _, _, _, _, _, _, _, rfl, kcl z_BadFloor k_BadFloor_BadFloor, kcl z_BadCells k_BadFloor_BadCells, kcl z_BadFraction k_BadFloor_BadFraction, kcl z_BadShares k_BadFloor_BadShares, kcl z_TooLittle k_BadFloor_TooLittle, kcl z_TooFine k_BadFloor_TooFine, kclN z_BadPaper k_BadFloor_BadPaper, kclN z_Falls k_BadFloor_Falls, kcl z_Late k_BadFloor_Late, kcl z_Full k_BadFloor_Full, kcl z_OtherKnown k_BadFloor_OtherKnown, kcl z_NoText k_BadFloor_NoText, kcl z_NoRow k_BadFloor_NoRow, kcl z_BadTerm k_BadFloor_BadTerm⟩, fun l1 H1 s1 h1 => ?_⟩
      exact ⟨_, rfl, qE no l1 H1 (s0.trans ((Same.upd he).trans s1)) h1⟩
noncomputable def sp_law_cells (K : PySem.W.Frag) : Sp := fun vs H Q _ => ∃ (l : Addr) (xs : List V), vs = [.ref l] ∧ SqL K H l xs ∧ (∀ x ∈ xs, ∃ n : String, TyOf K H x (.type n)) ∧ ((∀ x ∈ xs, cellOk x = true) → ∀ (i : Int) H', Same H H' → Q (.int i) H') ∧ ((∃ x ∈ xs, cellOk x = false) → ∀ l H', Same H H' → H' l = some (.tup [.str (Str.ofString "refused")]) → Q (.ref l) H')
theorem sc_law_cells : FnScope ["_law_some", "_law_found"] ["_law_some"] (defScope s_law_cells) := ⟨rfl, rfl, rfl, by decide +kernel, rfl, by decide +kernel, by decide +kernel⟩
set_option maxHeartbeats 4000000 in
theorem ok_law_cells {C_BadCells : Addr} (T : Tx K mg "_law_cells" s_law_cells ["_law_some"]) (B : Bn mg) (e_cells_of : DfE P w K mg base 3 "cells_of" ["some"] (sp_cells_of K mg)) (z_BadCells : ExcCl K mg "BadCells" C_BadCells) (m_BadCells_BadCells : PySem.W.mroIn K C_BadCells (.ref C_BadCells) = some true) : Df P w K mg base 4 "_law_cells" ["_law_some"] (sp_law_cells K) := by
  have d_cells_of := e_cells_of.df
  refine T.df sc_law_cells (fun vs H Q E h => ?_) (fun f cdv A outer s H vs Q E hr h => ?_)
  · obtain ⟨l, xs, rfl, hl, ht, q, qE⟩ := h
    rfl
  · obtain ⟨l, xs, rfl, hl, ht, q, qE⟩ := h
    refine ⟨_, (pss_cons (ps_set (i := 1) sc_law_cells.nd rfl (by first | exact Or.inl rfl | exact Or.inr rfl) (pe_lst pa_nil))
      (pss_cons (ps_tryA (i := 1) sc_law_cells.nd rfl (by first | exact Or.inl rfl | exact Or.inr rfl) e_cells_of hr (pa_cons (pv 0) pa_nil) (fun _ => (pss_one (ps_set (i := 1) sc_law_cells.nd rfl (by first | exact Or.inl rfl | exact Or.inr rfl) (pe_tup (pa_cons pe_str pa_nil))))))
      (pss_one (ps_ret (pv 1))))), ?_⟩
    refine ⟨len_ok rfl, fun l0 hl0 => ?_⟩
    have s0 := Same.upd (o := .lst []) hl0
    generalize (upd H l0 (.lst [])) = H0 at s0 ⊢
    refine ⟨_, rfl, l, xs, rfl, s0.seq hl, fun x hx => (ht x hx).imp fun _ t => t.same s0, fun ok i => ?_, fun no => ⟨C_BadCells, clsV_eq z_BadCells, hit_mk z_BadCells z_BadCells m_BadCells_BadCells, ?_⟩⟩
    · exact ⟨_, rfl, q ok i _ s0⟩
    · refine ⟨len_ok rfl, fun l1 hl1 => ?_⟩
      exact ⟨_, rfl, qE no l1 _ (s0.trans (Same.upd hl1)) upd_same⟩
noncomputable def sp_law_cells_by_any (K : PySem.W.Frag) : Sp := fun vs H Q _ => ∃ (l : Addr) (xs : List V), vs = [.ref l] ∧ SqL K H l xs ∧ (∀ x ∈ xs, ∃ n : String, TyOf K H x (.type n)) ∧ ((∀ x ∈ xs, cellOk x = true) → ∀ l H', Same H H' → H' l = some (.lst []) → Q (.ref l) H') ∧ ((∃ x ∈ xs, cellOk x = false) → ∀ l H', Same H H' → H' l = some (.lst ((only 1).map V.bl)) → Q (.ref l) H')
theorem sc_law_cells_by_any : FnScope ["_law_some", "_law_found", "_law_e"] ["_law_some"] (defScope s_law_cells_by_any) := ⟨rfl, rfl, rfl, by decide +kernel, rfl, by decide +kernel, by decide +kernel⟩
set_option maxHeartbeats 4000000 in
theorem ok_law_cells_by_any {C_LandError : Addr} {C_BadFloor : Addr} {C_BadTerm : Addr} {C_BadCells : Addr} {C_BadFraction : Addr} {C_BadShares : Addr} {C_TooLittle : Addr} {C_TooFine : Addr} {C_Late : Addr} {C_Full : Addr} {C_OtherKnown : Addr} {C_NoText : Addr} {C_NoRow : Addr} {C_BadPaper : Addr} {C_Falls : Addr} (T : Tx K mg "_law_cells_by_any" s_law_cells_by_any ["_law_some"]) (B : Bn mg) (e_cells_of : DfE P w K mg base 3 "cells_of" ["some"] (sp_cells_of K mg)) (m_law_kinds : DfM P w K mg base 1 "_law_kinds" ["_law_e"] (sp_law_kinds K mg)) (z_LandError : ExcCl K mg "LandError" C_LandError) (z_BadFloor : ExcCl K mg "BadFloor" C_BadFloor) (z_BadTerm : ExcCl K mg "BadTerm" C_BadTerm) (z_BadCells : ExcCl K mg "BadCells" C_BadCells) (z_BadFraction : ExcCl K mg "BadFraction" C_BadFraction) (z_BadShares : ExcCl K mg "BadShares" C_BadShares) (z_TooLittle : ExcCl K mg "TooLittle" C_TooLittle) (z_TooFine : ExcCl K mg "TooFine" C_TooFine) (z_Late : ExcCl K mg "Late" C_Late) (z_Full : ExcCl K mg "Full" C_Full) (z_OtherKnown : ExcCl K mg "OtherKnown" C_OtherKnown) (z_NoText : ExcCl K mg "NoText" C_NoText) (z_NoRow : ExcCl K mg "NoRow" C_NoRow) (z_BadPaper : ClsN mg "BadPaper" C_BadPaper) (z_Falls : ClsN mg "Falls" C_Falls) (a_BadCells : ExcA K C_BadCells) (m_BadCells_LandError : PySem.W.mroIn K C_BadCells (.ref C_LandError) = some true) (k_BadCells_BadFloor : PySem.W.kitOne K (.ref C_BadCells) (.ref C_BadFloor) = some false) (k_BadCells_BadCells : PySem.W.kitOne K (.ref C_BadCells) (.ref C_BadCells) = some true) (k_BadCells_BadFraction : PySem.W.kitOne K (.ref C_BadCells) (.ref C_BadFraction) = some false) (k_BadCells_BadShares : PySem.W.kitOne K (.ref C_BadCells) (.ref C_BadShares) = some false) (k_BadCells_TooLittle : PySem.W.kitOne K (.ref C_BadCells) (.ref C_TooLittle) = some false) (k_BadCells_TooFine : PySem.W.kitOne K (.ref C_BadCells) (.ref C_TooFine) = some false) (k_BadCells_BadPaper : PySem.W.kitOne K (.ref C_BadCells) (.ref C_BadPaper) = some false) (k_BadCells_Falls : PySem.W.kitOne K (.ref C_BadCells) (.ref C_Falls) = some false) (k_BadCells_Late : PySem.W.kitOne K (.ref C_BadCells) (.ref C_Late) = some false) (k_BadCells_Full : PySem.W.kitOne K (.ref C_BadCells) (.ref C_Full) = some false) (k_BadCells_OtherKnown : PySem.W.kitOne K (.ref C_BadCells) (.ref C_OtherKnown) = some false) (k_BadCells_NoText : PySem.W.kitOne K (.ref C_BadCells) (.ref C_NoText) = some false) (k_BadCells_NoRow : PySem.W.kitOne K (.ref C_BadCells) (.ref C_NoRow) = some false) (k_BadCells_BadTerm : PySem.W.kitOne K (.ref C_BadCells) (.ref C_BadTerm) = some false) : Df P w K mg base 4 "_law_cells_by_any" ["_law_some"] (sp_law_cells_by_any K) := by
  have d_cells_of := e_cells_of.df
  have d_law_kinds := m_law_kinds.df
  refine T.df sc_law_cells_by_any (fun vs H Q E h => ?_) (fun f cdv A outer s H vs Q E hr h => ?_)
  · obtain ⟨l, xs, rfl, hl, ht, q, qE⟩ := h
    rfl
  · obtain ⟨l, xs, rfl, hl, ht, q, qE⟩ := h
    refine ⟨_, (pss_cons (ps_set (i := 1) sc_law_cells_by_any.nd rfl (by first | exact Or.inl rfl | exact Or.inr rfl) (pe_lst pa_nil))
      (pss_cons (ps_tryEs (m := 2) sc_law_cells_by_any.nd rfl rfl e_cells_of hr (pa_cons (pv 0) pa_nil) (fun _ => (pss_one (ps_set (i := 1) sc_law_cells_by_any.nd rfl (by first | exact Or.inl rfl | exact Or.inr rfl) (pe_dfM m_law_kinds (hr.marked _) (pa_cons (pv 2) pa_nil))))))
      (pss_one (ps_ret (pv 1))))), ?_⟩
    refine ⟨len_ok rfl, fun l0 hl0 => ?_⟩
    have s0 := Same.upd (o := .lst []) hl0
    have e0 : (upd H l0 (.lst [])) l0 = some (.lst []) := upd_same
    generalize (upd H l0 (.lst [])) = H0 at s0 e0 ⊢
    refine ⟨_, rfl, l, xs, rfl, s0.seq hl, fun x hx => (ht x hx).imp fun _ t => t.same s0, fun ok i => ?_, fun no => ⟨C_BadCells, clsV_eq z_BadCells, hit_mk z_BadCells z_LandError m_BadCells_LandError, fun e he => ?_⟩⟩
    · exact ⟨_, rfl, q ok l0 _ s0 e0⟩
    · refine ⟨_, rfl, e, C_BadCells, only 1, rfl, .inl upd_same, a_BadCells, ⟨_, _, _, _, _, _, _, _, _, _, _, _, _, _, rfl, kcl z_BadFloor k_BadCells_BadFloor, kcl z_BadCells k_BadCells_BadCells, kcl z_BadFraction k_BadCells_BadFraction, kcl z_BadShares k_BadCells_BadShares, kcl z_TooLittle k_BadCells_TooLittle, kcl z_TooFine k_BadCells_TooFine, kclN z_BadPaper k_BadCells_BadPaper, kclN z_Falls k_BadCells_Falls, kcl z_Late k_BadCells_Late, kcl z_Full k_BadCells_Full, kcl z_OtherKnown k_BadCells_OtherKnown, kcl z_NoText k_BadCells_NoText, kcl z_NoRow k_BadCells_NoRow, kcl z_BadTerm k_BadCells_BadTerm⟩, fun l1 H1 s1 h1 => ?_⟩
      exact ⟨_, rfl, qE no l1 H1 (s0.trans ((Same.upd he).trans s1)) h1⟩
noncomputable def sp_law (K : PySem.W.Frag) : Sp := fun vs H Q _ => ∃ (a : Addr) (ns : List Int), vs = [.ref a] ∧ SqL K H a (ns.map V.int) ∧ ns.length ≤ 63 ∧ ∀ H', Q (.bl true) H'
theorem sc_law : FnScope ["_law_script", "_law_one", "_law_other", "_law_thing_here", "_law_told", "_law_good", "_law_found", "_law_kinds_here", "_law_some", "_law_at", "_law_spoilt", "_law_due"] ["_law_script"] (defScope s_law) := ⟨rfl, rfl, rfl, by decide +kernel, rfl, by decide +kernel, by decide +kernel⟩
set_option maxHeartbeats 4000000 in
theorem ok_law {f : Addr} {fd : FuncData} (F : Fun K "law" "law" s_law f fd) (B : Bn mg) (d_law_thing : Df P w K mg base 1 "_law_thing" ["_law_cell"] (sp_law_thing K)) (d_law_floor : Df P w K mg base 4 "_law_floor" ["_law_wide", "_law_high"] (sp_law_floor K)) (d_law_floor_by_any : Df P w K mg base 4 "_law_floor_by_any" ["_law_wide", "_law_high"] (sp_law_floor_by_any K)) (d_law_cells : Df P w K mg base 4 "_law_cells" ["_law_some"] (sp_law_cells K)) (d_law_cells_by_any : Df P w K mg base 4 "_law_cells_by_any" ["_law_some"] (sp_law_cells_by_any K)) (d_law_cell_at : Df P w K mg base 1 "_law_cell_at" ["_law_script", "_law_k"] (sp_law_cell_at K)) (d_is_number : Df P w K mg base 1 "is_number" ["thing"] (sp_is_number K)) (d_law_whole : Df P w K mg base 1 "_law_whole" ["_law_found"] (sp_law_whole K)) (d_law_classes : Df P w K mg base 3 "_law_classes" [] (sp_law_classes K)) (d_law_fields : Df P w K mg base 3 "_law_fields" ["_law_place"] (sp_law_fields K)) (g_SIDE : ∃ t, mg "SIDE" = some (.int 8 t)) : FnOk P w K mg base CX0 5 f fd ["_law_script"] (sp_law K) := by
  refine F.ok sc_law (fun vs H Q E h => ?_) (fun cdv A outer s H vs Q E hr h => ?_)
  · obtain ⟨a, ns, rfl, hS, hlen, q⟩ := h
    rfl
  · obtain ⟨a, ns, rfl, hS, hlen, q⟩ := h
    have hu := hr.units
    refine ⟨_, (pss_cons (ps_set (i := 1) sc_law.nd rfl (by first | exact Or.inl rfl | exact Or.inr rfl) (pe_df d_law_thing hr (pa_cons (pe_df d_law_cell_at hr (pa_cons (pv 0) (pa_cons pe_int pa_nil))) pa_nil)))
      (pss_cons (ps_set (i := 2) sc_law.nd rfl (by first | exact Or.inl rfl | exact Or.inr rfl) (pe_df d_law_thing hr (pa_cons (pe_df d_law_cell_at hr (pa_cons (pv 0) (pa_cons pe_int pa_nil))) pa_nil)))
      (pss_cons (ps_for PassesOwn.never rfl (pi_tup (pe_tup (pa_cons (pv 1) (pa_cons (pv 2) pa_nil)))) (pg_name (i := 3) sc_law.nd rfl (by first | exact Or.inl rfl | exact Or.inr rfl)) (pss_cons (ps_set (i := 4) sc_law.nd rfl (by first | exact Or.inl rfl | exact Or.inr rfl) (pe_df d_is_number hr (pa_cons (pv 3) pa_nil)))
      (pss_one (ps_if ((pw_or (pt_not (pt_val (pe_callB call_isi (by rfl) B.isinstance boot_isinstance (pa_cons (pv 4) (pa_cons (pe_bltn (x := "bool") (v := .ty "bool") (by rfl) B.bool boot_bool rfl) pa_nil))))) (pw_or1 (pt_cmpR op_ne (pv 4) (pe_df d_law_whole hr (pa_cons (pv 3) pa_nil)) (nomark _)))).pt) (pss_one (ps_ret pe_bl)) pss_nil))))
      (pss_consE (ps_set (i := 5) sc_law.nd rfl (by first | exact Or.inl rfl | exact Or.inr rfl) (pe_and (pe_df d_law_whole hr (pa_cons (pv 1) pa_nil)) (pe_and (pe_chain op_le op_le pe_int (pv 1) pe_int) (pe_and (pe_df d_law_whole hr (pa_cons (pv 2) pa_nil)) (pe_one (pe_chain op_le op_le pe_int (pv 2) pe_int))))))
      (pss_consE (ps_set (i := 6) sc_law.nd rfl (by first | exact Or.inl rfl | exact Or.inr rfl) (pe_df d_law_floor hr (pa_cons (pv 1) (pa_cons (pv 2) pa_nil))))
      (pss_consE (ps_set (i := 7) sc_law.nd rfl (by first | exact Or.inl rfl | exact Or.inr rfl) (pe_df d_law_floor_by_any hr (pa_cons (pv 1) (pa_cons (pv 2) pa_nil))))
      (pss_consE (ps_if (pt_val (pv 5)) (pss_cons (ps_if ((pw_or (pt_not (pt_val (pe_callB call_isi (by rfl) B.isinstance boot_isinstance (pa_cons (pv 6) (pa_cons (pe_bltn (x := "tuple") (v := .ty "tuple") (by rfl) B.tuple boot_tuple rfl) pa_nil))))) (pw_or (pt_cmpR (op_neD hu) (pv 6) (pe_tup (pa_cons (pv 1) (pa_cons (pv 2) pa_nil))) (nomark _)) (pw_or1 (pt_cmpR (op_neD hu) (pv 7) (pe_lst pa_nil) (nomark _))))).pt) (pss_one (ps_ret pe_bl)) pss_nil)
      (pss_one (ps_if ((pw_or (pt_not (pt_val (pe_df d_law_whole hr (pa_cons (pe_ix ix_tup (pv 6) pe_int (fun _ _ => rfl)) pa_nil)))) (pw_or1 (pt_not (pt_val (pe_df d_law_whole hr (pa_cons (pe_ix ix_tup (pv 6) pe_int (fun _ _ => rfl)) pa_nil)))))).pt) (pss_one (ps_ret pe_bl)) pss_nil))) (pss_one (ps_if ((pw_or (pt_cmpR (op_neD hu) (pv 6) (pe_lst (pa_cons pe_str pa_nil)) (nomark _)) (pw_or1 (pt_cmpR (op_neD hu) (pv 7) (pe_lcomp ["_law_j"] [] (clOf _ []) rfl (by rfl) rfl (by decide +kernel) (by decide +kernel) (clOf_cells (by rfl)) (kin_of (by rfl)) (fun p hp => by cases hp) (fun p hp => by cases hp) (wk_name (by decide)) (pi_range1 (by rfl) B.range (pa_cons pe_int pa_nil)) (fun _ _ _ _ => pg_name (i := 0) (show (["_law_j"] : List Str).Nodup by decide +kernel) rfl (Or.inl rfl) (Or.inr rfl)) (fun _ _ _ _ => pifs_nil) (fun _ _ _ _ => (pe_cmpR op_eq (pv 0) pe_int (nomark _)))) (nomark _)))).pt) (pss_one (ps_ret pe_bl)) pss_nil)))
      (pss_cons (ps_if ((pw_or (pt_not (pt_val (pe_df d_law_whole hr (pa_cons (pe_glob (v := .int 8) (by rfl) g_SIDE.choose_spec ⟨_, rfl⟩) pa_nil)))) (pw_or (pt_cmpR op_ne (pe_glob (v := .int 8) (by rfl) g_SIDE.choose_spec ⟨_, rfl⟩) pe_int (nomark _)) (pw_or1 (pt_not (pt_val (pe_df d_law_fields hr (pa_cons (pe_op op_mod (pe_df d_law_cell_at hr (pa_cons (pv 0) (pa_cons pe_int pa_nil))) pe_int) pa_nil))))))).pt) (pss_one (ps_ret pe_bl)) pss_nil)
      (pss_cons (ps_setC (i := 8) sc_law.nd rfl (by first | exact Or.inl rfl | exact Or.inr rfl) ["_law_cell"] [] (clOf _ []) rfl (by rfl) rfl (by decide +kernel) (by decide +kernel) (clOf_cells (by rfl)) (kin_of (by rfl)) (fun p hp => by cases hp) (fun p hp => by cases hp) (wk_name (by decide)) (pi_list (pe_slice sl_list (pv 0) (po_some pe_int) (po_some pe_int))) (fun _ _ _ _ => pg_name (i := 0) (show (["_law_cell"] : List Str).Nodup by decide +kernel) rfl (Or.inl rfl) (Or.inr rfl)) (fun _ _ _ _ => pifs_nil) (fun _ _ _ _ => (pe_op op_mod (pv 0) pe_int)))
      (pss_cons (ps_set (i := 9) sc_law.nd rfl (by first | exact Or.inl rfl | exact Or.inr rfl) (pe_op op_mod (pe_op op_fdiv (pe_df d_law_cell_at hr (pa_cons (pv 0) (pa_cons pe_int pa_nil))) pe_int) (pe_op op_add (pe_callB call_len_seq (by rfl) B.len PySem.boot_len (pa_cons (pv 8) pa_nil)) pe_int)))
      (pss_cons (ps_set (i := 10) sc_law.nd rfl (by first | exact Or.inl rfl | exact Or.inr rfl) (pe_cmpR op_gt (pe_op op_mod (pe_df d_law_cell_at hr (pa_cons (pv 0) (pa_cons pe_int pa_nil))) pe_int) pe_int (nomark _)))
      (pss_consE (ps_if (pt_val (pv 10)) (pss_one (ps_expr (pe_bm PySem.F.plainAttrs_list PySem.F.slot_list_insert PySem.F.type_list_insert mt_insert (pv 8) (pa_cons (pv 9) (pa_cons (pv 1) pa_nil))))) pss_nil)
      (pss_consE (ps_set (i := 11) sc_law.nd rfl (by first | exact Or.inl rfl | exact Or.inr rfl) (pe_and (pv 10) (pe_one (pe_not (pe_and (pe_df d_law_whole hr (pa_cons (pv 1) pa_nil)) (pe_one (pe_chain op_le op_le pe_int (pv 1) pe_int)))))))
      (pss_consE (ps_set (i := 6) sc_law.nd rfl (by first | exact Or.inl rfl | exact Or.inr rfl) (pe_df d_law_cells hr (pa_cons (pv 8) pa_nil)))
      (pss_consE (ps_set (i := 7) sc_law.nd rfl (by first | exact Or.inl rfl | exact Or.inr rfl) (pe_df d_law_cells_by_any hr (pa_cons (pv 8) pa_nil)))
      (pss_cons (ps_if (pt_val (pv 11)) (pss_one (ps_ret (pe_and (pe_cmpR (op_eqD hu) (pv 6) (pe_tup (pa_cons pe_str pa_nil)) (nomark _)) (pe_and (pe_cmpR (op_eqD hu) (pv 7) (pe_lcomp ["_law_j"] [] (clOf _ []) rfl (by rfl) rfl (by decide +kernel) (by decide +kernel) (clOf_cells (by rfl)) (kin_of (by rfl)) (fun p hp => by cases hp) (fun p hp => by cases hp) (wk_name (by decide)) (pi_range1 (by rfl) B.range (pa_cons pe_int pa_nil)) (fun _ _ _ _ => pg_name (i := 0) (show (["_law_j"] : List Str).Nodup by decide +kernel) rfl (Or.inl rfl) (Or.inr rfl)) (fun _ _ _ _ => pifs_nil) (fun _ _ _ _ => (pe_cmpR op_eq (pv 0) pe_int (nomark _)))) (nomark _)) (pe_one (pe_df0 d_law_classes hr)))))) pss_nil)
      (pss_one (ps_ret (pe_and (pe_df d_law_whole hr (pa_cons (pv 6) pa_nil)) (pe_and (pe_cmpR (op_eqD hu) (pv 7) (pe_lst pa_nil) (nomark _)) (pe_one (pe_df0 d_law_classes hr)))))))))))))))))))))), ?_⟩
    refine ⟨_, rfl, a, ns, 0, rfl, hS, _, rfl, fun v1 n1 H1 s1 ty1 => ?_⟩
    refine ⟨_, rfl, a, ns, 1, rfl, s1.seq hS, _, rfl, fun v2 n2 H2 s2 ty2 => ?_⟩
    refine ⟨_, rfl, _, rfl, len_ok rfl, fun lt hlt => ⟨lt, rfl, ⟨_, SqT.of upd_same⟩, ?_⟩⟩
    have s3 := Same.upd (o := .tup [v1, v2]) hlt
    have e3 : upd H2 lt (.tup [v1, v2]) lt = some (.tup [v1, v2]) := upd_same
    generalize (upd H2 lt (.tup [v1, v2])) = H3 at s3 e3 ⊢
    have t1 := (ty1.same s2).same s3
    have t2 := ty2.same s3
    have hS3 := (s1.trans (s2.trans s3)).seq hS
    refine for_tup (K := K) (a := lt) (xs := [v1, v2]) (fun i σ H4 => ∃ o3 o4 : Option V, σ = [some (.ref a), some v1, some v2, o3, o4, none, none, none, none, none, none, none] ∧ H4 = H3) ⟨none, none, rfl, rfl⟩ (fun i σ H4 _ ⟨_, _, _, e⟩ => by rw [e]; exact SqT.of e3) ?_ ?_
    · rintro i y σ H4 hi ⟨o3, o4, rfl, rfl⟩
      obtain ⟨n, ty⟩ : ∃ n : String, TyOf K H4 y (.type n) := by
        rcases i with _ | _ | i
        · have z : y = v1 := by simpa using hi.symm
          rw [z]; exact ⟨n1, t1⟩
        · have z : y = v2 := by simpa using hi.symm
          rw [z]; exact ⟨n2, t2⟩
        · simp at hi
      refine ⟨_, rfl, y, n, rfl, ty, ?_⟩
      have kb := kit_bool K (TyOf.bl (isI y) : TyOf K H4 (.bl (isI y)) (.type "bool"))
      refine ⟨_, rfl, _, _, _, _, rfl, TyOf.bl _, kb, _, rfl, iteF ?_⟩
      refine ⟨_, rfl, _, rfl, y, n, rfl, ty, rfl, _, rfl, ?_⟩
      exact ite2 (fun h => absurd h (by simp)) (fun _ => ⟨_, _, rfl, rfl⟩)
    rintro σ H4 ⟨o3, o4, rfl, rfl⟩
    refine ⟨fun σ' H' => σ' = [some (.ref a), some v1, some v2, o3, o4, some (.bl (lenOk v1 && lenOk v2)), none, none, none, none, none, none] ∧ H' = H4, ?_, ?_⟩
    · refine ⟨_, rfl, v1, n1, rfl, t1, _, rfl, ?_⟩
      cases v1 with
      | int i =>
        refine iteT ⟨_, rfl, _, _, rfl, rfl, _, rfl, ?_⟩
        refine ite2 (fun h1 => ?_) (fun h1 => ?_)
        · refine ⟨_, _, rfl, rfl, _, rfl, ?_⟩
          refine ite2 (fun h2 => ?_) (fun h2 => ?_)
          · have el : lenOk (.int i) = true := by
              show (decide (1 ≤ i) && decide (i ≤ 8)) = true
              rw [h1, h2]; rfl
            rw [el, Bool.true_and]
            refine ⟨_, rfl, v2, n2, rfl, t2, _, rfl, ?_⟩
            cases v2 with
            | int j =>
              refine iteT ⟨_, rfl, _, _, rfl, rfl, _, rfl, ?_⟩
              refine ite2 (fun h3 => ?_) (fun h3 => ?_)
              · refine ⟨_, _, rfl, rfl, ?_⟩
                have e2 : lenOk (.int j) = decide (j ≤ 8) := by
                  show (decide (1 ≤ j) && decide (j ≤ 8)) = decide (j ≤ 8)
                  rw [h3, Bool.true_and]
                rw [e2]
                exact ⟨rfl, rfl⟩
              · have e2 : lenOk (.int j) = false := by
                  show (decide (1 ≤ j) && decide (j ≤ 8)) = false
                  rw [Bool.and_eq_false_iff]
                  exact .inl (by simpa using h3)
                rw [e2]
                exact ⟨rfl, rfl⟩
            | _ => exact iteF ⟨rfl, rfl⟩
          · have el : lenOk (.int i) = false := by
              show (decide (1 ≤ i) && decide (i ≤ 8)) = false
              rw [Bool.and_eq_false_iff]
              exact .inr (by simpa using h2)
            rw [el, Bool.false_and]
            exact ⟨rfl, rfl⟩
        · have el : lenOk (.int i) = false := by
            show (decide (1 ≤ i) && decide (i ≤ 8)) = false
            rw [Bool.and_eq_false_iff]
            exact .inl (by simpa using h1)
          rw [el, Bool.false_and]
          exact ⟨_, rfl, iteF ⟨rfl, rfl⟩⟩
      | _ => exact iteF ⟨rfl, rfl⟩
    rintro σ' H' ⟨rfl, rfl⟩
    refine ⟨fun σ' H5 => ∃ lf, σ' = [some (.ref a), some v1, some v2, o3, o4, some (.bl (lenOk v1 && lenOk v2)), some (.ref lf), none, none, none, none, none] ∧ Same H' H5 ∧ (((lenOk v1 && lenOk v2) = true ∧ H5 lf = some (.tup [v1, v2])) ∨ ((lenOk v1 && lenOk v2) = false ∧ H5 lf = some (.lst [.str (Str.ofString "refused")]))), ?_, ?_⟩
    · exact ⟨_, rfl, _, rfl, v1, v2, n1, n2, rfl, t1, t2, fun ok l H5 s5 h5 => ⟨l, rfl, s5, .inl ⟨ok, h5⟩⟩, fun no l H5 s5 h5 => ⟨l, rfl, s5, .inr ⟨no, h5⟩⟩⟩
    rintro σ5 H5 ⟨lf, rfl, s5, alt⟩
    refine ⟨fun σ' H6 => ∃ lk, σ' = [some (.ref a), some v1, some v2, o3, o4, some (.bl (lenOk v1 && lenOk v2)), some (.ref lf), some (.ref lk), none, none, none, none] ∧ Same H5 H6 ∧ (((lenOk v1 && lenOk v2) = true ∧ H6 lk = some (.lst [])) ∨ ((lenOk v1 && lenOk v2) = false ∧ H6 lk = some (.lst ((only 0).map V.bl)))), ?_, ?_⟩
    · exact ⟨_, rfl, _, rfl, v1, v2, n1, n2, rfl, t1.same s5, t2.same s5, fun ok l H6 s6 h6 => ⟨l, rfl, s6, .inl ⟨ok, h6⟩⟩, fun no l H6 s6 h6 => ⟨l, rfl, s6, .inr ⟨no, h6⟩⟩⟩
    rintro σ6 H6 ⟨lk, rfl, s6, alt2⟩
    refine ⟨fun σ' H7 => σ' = [some (.ref a), some v1, some v2, o3, o4, some (.bl (lenOk v1 && lenOk v2)), some (.ref lf), some (.ref lk), none, none, none, none] ∧ Same H6 H7, ?_, ?_⟩
    · refine ⟨_, rfl, _, rfl, ?_⟩
      cases eg : (lenOk v1 && lenOk v2) with
      | true =>
        have hf : H6 lf = some (.tup [v1, v2]) := alt.elim (fun z => s6 _ _ z.2) (fun z => by rw [z.1] at eg; cases eg)
        have hk : H6 lk = some (.lst []) := alt2.elim (fun z => z.2) (fun z => by rw [z.1] at eg; cases eg)
        obtain ⟨i, rfl⟩ : ∃ i, v1 = .int i := by
          cases v1 <;> first | exact ⟨_, rfl⟩ | cases eg
        obtain ⟨j, rfl⟩ : ∃ j, v2 = .int j := by
          rw [Bool.and_eq_true] at eg
          have e2 := eg.2
          cases v2 <;> first | exact ⟨_, rfl⟩ | cases e2
        refine iteT ?_
        have kt : PySem.W.kitOne K (.type "tuple") (.type "tuple") = some true := by kernel_rfl
        refine ⟨_, rfl, _, _, _, _, rfl, TyOf.tup hf, kt, _, rfl, iteF ?_⟩
        refine ⟨_, rfl, _, rfl, _, rfl, len_ok rfl, fun p hp => ?_⟩
        have sp := Same.upd (o := .tup [.int i, .int j]) hp
        refine ⟨_, _, IsD.tup (SqT.of (sp _ _ hf)) (isDs2 _ _), IsD.tup (SqT.of upd_same) (isDs2 _ _), rfl, rfl, by show 1 ≤ 50; decide, _, rfl, ?_⟩
        rw [eqv2]
        refine iteF ?_
        refine ⟨_, rfl, len_ok rfl, fun p2 hp2 => ?_⟩
        have sp2 := Same.upd (o := .lst []) hp2
        refine ⟨.list [], .list [], IsD.lst (SqL.of (sp2 _ _ (sp _ _ hk))) .nil, IsD.lst (SqL.of upd_same) .nil, rfl, rfl, by show 1 ≤ 50; decide, _, rfl, ?_⟩
        rw [SeqAt.eqv_refl (.list []) rfl]
        refine iteF ?_
        have hf2 := sp2 _ _ (sp _ _ hf)
        refine ⟨_, rfl, lf, _, _, _, rfl, rfl, SqT.of hf2, (atI_nat (j := 0) rfl), _, _, rfl, TyOf.int i, _, rfl, iteF ?_⟩
        refine ⟨_, rfl, lf, _, _, _, rfl, rfl, SqT.of hf2, (atI_nat (j := 1) rfl), _, _, rfl, TyOf.int j, _, rfl, iteF ?_⟩
        exact ⟨rfl, sp.trans sp2⟩
      | false =>
        have hf : H6 lf = some (.lst [.str (Str.ofString "refused")]) := alt.elim (fun z => by rw [z.1] at eg; cases eg) (fun z => s6 _ _ z.2)
        have hk : H6 lk = some (.lst ((only 0).map V.bl)) := alt2.elim (fun z => by rw [z.1] at eg; cases eg) (fun z => z.2)
        refine iteF ?_
        refine ⟨_, rfl, len_ok rfl, fun p hp => ?_⟩
        have sp := Same.upd (o := .lst [.str (Str.ofString "refused")]) hp
        have layR : (PyData.list [.str (Str.ofString "refused")]).canLay0 = true := by decide +kernel
        refine ⟨.list [.str (Str.ofString "refused")], .list [.str (Str.ofString "refused")], IsD.lst (SqL.of (sp _ _ hf)) (.cons (.str _) .nil), IsD.lst (SqL.of upd_same) (.cons (.str _) .nil), layR, layR, by show 1 ≤ 50; decide, _, rfl, ?_⟩
        rw [SeqAt.eqv_refl _ layR]
        refine iteF ?_
        have hk2 := sp _ _ hk
        generalize (upd H6 p (.lst [.str (Str.ofString "refused")])) = HP at sp hk2 ⊢
        refine ⟨_, rfl, ?_⟩
        · refine ⟨14, rfl, by decide, by decide, fun A1 hA1 => ?_⟩
          refine compR (n := 14) (lo := 0) (fun j acc HC => HC = upd HP A1 (.lst acc) ∧ acc = (List.range j).map fun k : Nat => V.bl (decide (k = 0))) ⟨rfl, rfl⟩ ?_ ?_
          · rintro j acc HC hj ⟨rfl, rfl⟩
            refine ⟨_, rfl, rfl, upd_same, small1000 (by rw [List.length_map, List.length_range]; omega), by rw [upd_upd], ?_⟩
            rw [List.range_succ, List.map_append]
            have e : decide (V.int (0 + (j : Int)) = V.int 0) = decide (j = 0) := by
              rw [decide_eq_decide]
              exact ⟨fun z => by have := V.int.inj z; omega, fun z => by rw [z]; rfl⟩
            rw [e]
            rfl
          · rintro acc HC ⟨rfl, rfl⟩
            have eo : ((List.range 14).map fun k : Nat => V.bl (decide (k = 0))) = (only 0).map V.bl := by
              unfold only
              rw [List.map_map]
              rfl
            rw [eo]
            have sC := Same.upd (o := .lst ((only 0).map V.bl)) hA1
            refine ⟨.list ((only 0).map PyData.bool), .list ((only 0).map PyData.bool), IsD.lst (SqL.of (sC _ _ hk2)) (isDs_bls _), IsD.lst (SqL.of upd_same) (isDs_bls _), lay_bls _, lay_bls _, (by show PyData.depthAll _ + 1 ≤ 50; rw [dep_bls]; decide), _, rfl, ?_⟩
            rw [eqv_bls]
            refine iteF ?_
            exact ⟨rfl, sp.trans sC⟩
    rintro σ7 H7 ⟨rfl, s7⟩
    have t7 := ((t1.same s5).same s6).same s7
    have s07 := s5.trans (s6.trans s7)
    have hS7 := s07.seq hS3
    refine ⟨.int 8, _, rfl, TyOf.int 8, _, rfl, iteF ?_⟩
    refine ⟨rfl, _, rfl, ?_⟩
    refine ite2 (fun h => absurd h (by simp)) (fun _ => ?_)
    refine ⟨_, rfl, a, ns, 2, rfl, hS7, _, _, rfl, rfl, (by show (0 : Int) < _; decide), _, rfl, fun H8 s8 => ⟨_, rfl, iteF ?_⟩⟩
    have t8 := t7.same s8
    have hS8 := s8.seq hS7
    refine ⟨_, rfl, _, rfl, _, rfl, a, _, rfl, hS8, fun l0 hl0 => ⟨l0, rfl, ⟨_, SqL.of upd_same⟩, fun l hl => ?_⟩⟩
    obtain ⟨ms, ems, hms⟩ := cutV_ints ns (some 3) (some 23)
    rw [ems] at hl ⊢
    have s0 := Same.upd (o := .lst (ms.map V.int)) hl0
    refine compL (K := K) (a := l0) (xs := ms.map V.int) (fun i acc HC => HC = upd (upd H8 l0 (.lst (ms.map V.int))) l (.lst acc) ∧ acc = (ms.take i).map fun z => V.int (z % 64)) ⟨rfl, rfl⟩ (fun i acc HC _ ⟨e, _⟩ => by rw [e]; exact SqL.of (Same.upd hl _ _ upd_same)) ?_ ?_
    · rintro i y acc HC hi ⟨rfl, rfl⟩
      obtain ⟨z, hz, rfl⟩ := get_intM hi
      refine ⟨_, rfl, _, _, rfl, rfl, (by show (0 : Int) < _; decide), upd_same, ?_, ?_, ?_⟩
      · exact small1000 (by rw [List.length_map, List.length_take]; omega)
      · rw [upd_upd]
      · rw [List.take_add_one, hz, Option.toList_some, List.map_append]
        rfl
    rintro acc HC ⟨rfl, rfl⟩
    rw [List.length_map, List.take_length]
    have hlN : H8 l = none := by
      cases e : H8 l with
      | none => rfl
      | some o => rw [s0 _ _ e] at hl; cases hl
    have s9 : Same H8 (upd (upd H8 l0 (.lst (ms.map V.int))) l (.lst (ms.map fun z => V.int (z % 64)))) := s0.trans (Same.upd hl)
    have hl9 : (upd (upd H8 l0 (.lst (ms.map V.int))) l (.lst (ms.map fun z => V.int (z % 64)))) l = some (.lst (ms.map fun z => V.int (z % 64))) := upd_same
    generalize (upd (upd H8 l0 (.lst (ms.map V.int))) l (.lst (ms.map fun z => V.int (z % 64)))) = H9 at s9 hl9 ⊢
    have hS9 := s9.seq hS8
    have lx : ((ms.map fun z => V.int (z % 64))).length ≤ 63 := by rw [List.length_map]; omega
    have all0 : ∀ x ∈ (ms.map fun z => V.int (z % 64)), cellOk x = true ∧ ∃ i, x = V.int i := fun x hx => by
      obtain ⟨z, _, rfl⟩ := List.mem_map.mp hx
      refine ⟨?_, _, rfl⟩
      show (decide (0 ≤ z % 64) && decide (z % 64 < 64)) = true
      rw [decide_eq_true (by omega), decide_eq_true (by omega)]; rfl
    refine ⟨_, rfl, a, ns, 2, rfl, hS9, _, _, rfl, rfl, ⟨by decide, by decide⟩, _, rfl, l, _, rfl, .inl (SqL.of hl9), _, _, rfl, rfl, _, _, rfl, rfl, (by show (0 : Int) < _; omega), ?_⟩
    refine ⟨_, rfl, a, ns, 2, rfl, hS9, _, _, rfl, rfl, (by show (0 : Int) < _; decide), _, _, rfl, rfl, ?_⟩
    refine ⟨fun σ' HT => ∃ xs : List V, σ' = [some (.ref a), some v1, some v2, o3, o4, some (.bl (lenOk v1 && lenOk v2)), some (.ref lf), some (.ref lk), some (.ref l), some (.int (ns.getD 2 0 / 3 % (((ms.map fun z => V.int (z % 64)).length : Int) + 1))), some (.bl (decide (0 < ns.getD 2 0 % 3))), none] ∧ Same H8 HT ∧ HT l = some (.lst xs) ∧ (∀ x ∈ xs, ∃ n : String, TyOf K HT x (.type n)) ∧ (((decide (0 < ns.getD 2 0 % 3)) && !cellOk v1) = false → ∀ x ∈ xs, cellOk x = true) ∧ (((decide (0 < ns.getD 2 0 % 3)) && !cellOk v1) = true → ∃ x ∈ xs, cellOk x = false), ?_, ?_⟩
    · refine ⟨_, rfl, _, rfl, ?_⟩
      refine ite2 (fun h => ?_) (fun h => ?_)
      · have m0 := Int.emod_nonneg (ns.getD 2 0 / 3) (show ((((ms.map fun z => V.int (z % 64))).length : Int) + 1) ≠ 0 by omega)
        have m1 := Int.emod_lt_of_pos (ns.getD 2 0 / 3) (show (0 : Int) < (((ms.map fun z => V.int (z % 64))).length : Int) + 1 by omega)
        refine ⟨_, rfl, .inl ⟨rfl, _, SqL.of hl9⟩, _, rfl, _, rfl, l, _, _, _, rfl, rfl, hl9, m0, by omega, small1000 (by omega), ?_⟩
        generalize (ns.getD 2 0 / 3 % ((((ms.map fun z => V.int (z % 64))).length : Int) + 1)).toNat = k5
        have sH : Same H8 (upd H9 l (.lst (((ms.map fun z => V.int (z % 64))).take k5 ++ v1 :: ((ms.map fun z => V.int (z % 64))).drop k5))) := fun c o e => by
          rw [upd_ne (fun z => by rw [z, hlN] at e; cases e)]
          exact s9 c o e
        have inm : v1 ∈ ((ms.map fun z => V.int (z % 64))).take k5 ++ v1 :: ((ms.map fun z => V.int (z % 64))).drop k5 := List.mem_append_right _ (List.mem_cons_self ..)
        refine ⟨_, rfl, sH, upd_same, fun x hx => ?_, fun hn x hx => ?_, fun hy => ⟨v1, inm, ?_⟩⟩
        · rcases mem_ins hx with z | z
          · obtain ⟨_, i, rfl⟩ := all0 x z
            exact ⟨_, .int i⟩
          · rw [z]; exact ⟨_, t8.same sH⟩
        · rcases mem_ins hx with z | z
          · exact (all0 x z).1
          · rw [z]
            rw [h, Bool.true_and] at hn
            simpa using hn
        · rw [h, Bool.true_and] at hy
          simpa using hy
      · refine ⟨_, rfl, s9, hl9, fun x hx => ?_, fun _ x hx => (all0 x hx).1, fun hy => ?_⟩
        · obtain ⟨_, i, rfl⟩ := all0 x hx
          exact ⟨_, .int i⟩
        · rw [Bool.and_eq_true] at hy
          exact absurd hy.1 h
    rintro σT HT ⟨xs, rfl, sT, hlT, htT, hok, hno⟩
    have tT := t8.same sT
    refine ⟨fun σ' HU => σ' = [some (.ref a), some v1, some v2, o3, o4, some (.bl (lenOk v1 && lenOk v2)), some (.ref lf), some (.ref lk), some (.ref l), some (.int (ns.getD 2 0 / 3 % (((ms.map fun z => V.int (z % 64)).length : Int) + 1))), some (.bl (decide (0 < ns.getD 2 0 % 3))), some (.bl ((decide (0 < ns.getD 2 0 % 3)) && !cellOk v1))] ∧ HU = HT, ?_, ?_⟩
    · refine ⟨_, rfl, _, rfl, ?_⟩
      refine ite2 (fun h => ?_) (fun h => ?_)
      · rw [h, Bool.true_and]
        refine ⟨_, rfl, v1, n1, rfl, tT, _, rfl, ?_⟩
        cases v1 with
        | int i =>
          refine iteT ⟨_, rfl, _, _, rfl, rfl, _, rfl, ?_⟩
          refine ite2 (fun h1 => ?_) (fun h1 => ?_)
          · refine ⟨_, _, rfl, rfl, _, rfl, ?_⟩
            have e2 : cellOk (.int i) = decide (i ≤ 63) := by
              show (decide (0 ≤ i) && decide (i < 64)) = decide (i ≤ 63)
              rw [h1, Bool.true_and, decide_eq_decide]
              omega
            rw [e2]
            exact ⟨rfl, rfl⟩
          · have e2 : cellOk (.int i) = false := by
              show (decide (0 ≤ i) && decide (i < 64)) = false
              rw [Bool.and_eq_false_iff]
              exact .inl (by simpa using h1)
            rw [e2]
            exact ⟨_, rfl, ⟨rfl, rfl⟩⟩
        | _ => exact iteF ⟨_, rfl, ⟨rfl, rfl⟩⟩
      · rw [show (decide (0 < ns.getD 2 0 % 3)) = false from by simpa using h, Bool.false_and]
        exact ⟨rfl, rfl⟩
    rintro σU HU ⟨rfl, rfl⟩
    refine ⟨fun σ' HV => ∃ vf, σ' = [some (.ref a), some v1, some v2, o3, o4, some (.bl (lenOk v1 && lenOk v2)), some vf, some (.ref lk), some (.ref l), some (.int (ns.getD 2 0 / 3 % (((ms.map fun z => V.int (z % 64)).length : Int) + 1))), some (.bl (decide (0 < ns.getD 2 0 % 3))), some (.bl ((decide (0 < ns.getD 2 0 % 3)) && !cellOk v1))] ∧ Same HU HV ∧ ((((decide (0 < ns.getD 2 0 % 3)) && !cellOk v1) = false ∧ ∃ i, vf = .int i) ∨ (((decide (0 < ns.getD 2 0 % 3)) && !cellOk v1) = true ∧ ∃ lf, vf = .ref lf ∧ HV lf = some (.tup [.str (Str.ofString "refused")]))), ?_, ?_⟩
    · cases ed : ((decide (0 < ns.getD 2 0 % 3)) && !cellOk v1) with
      | false =>
        refine ⟨_, rfl, l, xs, rfl, SqL.of hlT, htT, fun ok i H' s' => ⟨.int i, rfl, s', .inl ⟨rfl, i, rfl⟩⟩, fun ⟨x, hx, e⟩ => ?_⟩
        rw [hok ed x hx] at e; cases e
      | true =>
        refine ⟨_, rfl, l, xs, rfl, SqL.of hlT, htT, fun ok => ?_, fun no lf' H' s' h' => ⟨.ref lf', rfl, s', .inr ⟨rfl, lf', rfl, h'⟩⟩⟩
        obtain ⟨x, hx, e⟩ := hno ed
        rw [ok x hx] at e; cases e
    rintro σV HV ⟨vf, rfl, sV, altV⟩
    refine ⟨fun σ' HW => ∃ kk, σ' = [some (.ref a), some v1, some v2, o3, o4, some (.bl (lenOk v1 && lenOk v2)), some vf, some (.ref kk), some (.ref l), some (.int (ns.getD 2 0 / 3 % (((ms.map fun z => V.int (z % 64)).length : Int) + 1))), some (.bl (decide (0 < ns.getD 2 0 % 3))), some (.bl ((decide (0 < ns.getD 2 0 % 3)) && !cellOk v1))] ∧ Same HV HW ∧ ((((decide (0 < ns.getD 2 0 % 3)) && !cellOk v1) = false ∧ HW kk = some (.lst [])) ∨ (((decide (0 < ns.getD 2 0 % 3)) && !cellOk v1) = true ∧ HW kk = some (.lst ((only 1).map V.bl)))), ?_, ?_⟩
    · have htV : ∀ x ∈ xs, ∃ n : String, TyOf K HV x (.type n) := fun x hx => (htT x hx).imp fun _ t => t.same sV
      cases ed : ((decide (0 < ns.getD 2 0 % 3)) && !cellOk v1) with
      | false =>
        refine ⟨_, rfl, l, xs, rfl, SqL.of (sV _ _ hlT), htV, fun ok k' H' s' h' => ⟨k', rfl, s', .inl ⟨rfl, h'⟩⟩, fun ⟨x, hx, e⟩ => ?_⟩
        rw [hok ed x hx] at e; cases e
      | true =>
        refine ⟨_, rfl, l, xs, rfl, SqL.of (sV _ _ hlT), htV, fun ok => ?_, fun no k' H' s' h' => ⟨k', rfl, s', .inr ⟨rfl, h'⟩⟩⟩
        obtain ⟨x, hx, e⟩ := hno ed
        rw [ok x hx] at e; cases e
    rintro σW HW ⟨kk, rfl, sW, altW⟩
    refine ⟨_, rfl, _, rfl, ?_⟩
    cases ed : ((decide (0 < ns.getD 2 0 % 3)) && !cellOk v1) with
    | true =>
      obtain ⟨lf', rfl, hf'⟩ : ∃ lf', vf = .ref lf' ∧ HV lf' = some (.tup [.str (Str.ofString "refused")]) := altV.elim (fun z => by rw [z.1] at ed; cases ed) (fun z => z.2)
      have hk' : HW kk = some (.lst ((only 1).map V.bl)) := altW.elim (fun z => by rw [z.1] at ed; cases ed) (fun z => z.2)
      have hfW := sW _ _ hf'
      refine iteT ?_
      refine ⟨_, rfl, len_ok rfl, fun p hp => ?_⟩
      have sp := Same.upd (o := .tup [.str (Str.ofString "refused")]) hp
      have layR : (PyData.tuple [.str (Str.ofString "refused")]).canLay0 = true := by decide +kernel
      refine ⟨.tuple [.str (Str.ofString "refused")], .tuple [.str (Str.ofString "refused")], IsD.tup (SqT.of (sp _ _ hfW)) (.cons (.str _) .nil), IsD.tup (SqT.of upd_same) (.cons (.str _) .nil), layR, layR, by show 1 ≤ 50; decide, _, rfl, ?_⟩
      rw [SeqAt.eqv_refl _ layR]
      refine iteT ?_
      have hk2 := sp _ _ hk'
      generalize (upd HW p (.tup [.str (Str.ofString "refused")])) = HP at sp hk2 ⊢
      refine ⟨_, rfl, ?_⟩
      · refine ⟨14, rfl, by decide, by decide, fun A1 hA1 => ?_⟩
        refine compR (n := 14) (lo := 0) (fun j acc HC => HC = upd HP A1 (.lst acc) ∧ acc = (List.range j).map fun k : Nat => V.bl (decide (k = 1))) ⟨rfl, rfl⟩ ?_ ?_
        · rintro j acc HC hj ⟨rfl, rfl⟩
          refine ⟨_, rfl, rfl, upd_same, small1000 (by rw [List.length_map, List.length_range]; omega), by rw [upd_upd], ?_⟩
          rw [List.range_succ, List.map_append]
          have e : decide (V.int (0 + (j : Int)) = V.int 1) = decide (j = 1) := by
            rw [decide_eq_decide]
            exact ⟨fun z => by have := V.int.inj z; omega, fun z => by rw [z]; rfl⟩
          rw [e]
          rfl
        · rintro acc HC ⟨rfl, rfl⟩
          have eo : ((List.range 14).map fun k : Nat => V.bl (decide (k = 1))) = (only 1).map V.bl := by
            unfold only
            rw [List.map_map]
            rfl
          rw [eo]
          have sC := Same.upd (o := .lst ((only 1).map V.bl)) hA1
          refine ⟨.list ((only 1).map PyData.bool), .list ((only 1).map PyData.bool), IsD.lst (SqL.of (sC _ _ hk2)) (isDs_bls _), IsD.lst (SqL.of upd_same) (isDs_bls _), lay_bls _, lay_bls _, (by show PyData.depthAll _ + 1 ≤ 50; rw [dep_bls]; decide), _, rfl, ?_⟩
          rw [eqv_bls]
          refine iteT ?_
          exact ⟨rfl, fun H' _ => q H'⟩
    | false =>
      obtain ⟨i, rfl⟩ : ∃ i, vf = .int i := altV.elim (fun z => z.2) (fun z => by rw [z.1] at ed; cases ed)
      have hk' : HW kk = some (.lst []) := altW.elim (fun z => z.2) (fun z => by rw [z.1] at ed; cases ed)
      refine iteF ?_
      refine ⟨_, rfl, .int i, _, rfl, TyOf.int i, _, rfl, iteT ?_⟩
      refine ⟨_, rfl, len_ok rfl, fun p2 hp2 => ?_⟩
      have sp2 := Same.upd (o := .lst []) hp2
      refine ⟨.list [], .list [], IsD.lst (SqL.of (sp2 _ _ hk')) .nil, IsD.lst (SqL.of upd_same) .nil, rfl, rfl, by show 1 ≤ 50; decide, _, rfl, ?_⟩
      rw [SeqAt.eqv_refl (.list []) rfl]
      refine iteT ?_
      exact ⟨rfl, fun H' _ => q H'⟩
end
end My
open PySem PySem.W PyProof.Rows
set_option maxRecDepth 100000 in
set_option maxHeartbeats 0 in
theorem PySem.Challenge.cw_landroll_k01_no_floor_no_cells_holds : PySem.Challenge.rw_landroll_k01_no_floor_no_cells.Holds := by
  w_on; o_law; k_head; (case hw => w_witness2)
  k_fill
  refine L2.walk_ofK (l := PySem.Challenge.rw_landroll_k01_no_floor_no_cells) (n := 63) (k := 5) (x := "_law_script") (CX := L2.CX0) (sp := My.sp_law) rfl (by decide) rfl ⟨rfl, by decide, by decide⟩ (fun w h Y => PySem.W.kIn_of Y) ?F ?S ?C
  case F =>
    intro w mg fa h KX G hmg
    have B : L2.Bn mg := by
      refine' L2.bn_mk KX G ?z0 ?z1 ?z2 ?z3 ?z4 ?z5 ?z6 ?z7 ?z8 ?z9 ?z10 ?z11 ?z12 ?z13
      (case z0 => k_is); (case z1 => k_is); (case z2 => k_is); (case z3 => k_is); (case z4 => k_is); (case z5 => k_is); (case z6 => k_is); (case z7 => k_is); (case z8 => k_is); (case z9 => k_is); (case z10 => k_is); (case z11 => k_is); (case z12 => k_is); (case z13 => k_is)
    have t_is_number : L2.Tx (L2.KOf KX) mg "is_number" My.s_is_number ["thing"] := by
      dsimp only [L2.KOf]
      refine' L2.tx_mk KX G ?a ?l ?c ?k (fun _ _ _ _ _ _ us hl => match us, hl with | [_], _ => rfl)
      (case a => k_is); (case l => k_is); (case c => k_is); (case k => k_is)
    have t_law_cell_at : L2.Tx (L2.KOf KX) mg "_law_cell_at" My.s_law_cell_at ["_law_script", "_law_k"] := by
      dsimp only [L2.KOf]
      refine' L2.tx_mk KX G ?a ?l ?c ?k (fun _ _ _ _ _ _ us hl => match us, hl with | [_, _], _ => rfl)
      (case a => k_is); (case l => k_is); (case c => k_is); (case k => k_is)
    have t_law_whole : L2.Tx (L2.KOf KX) mg "_law_whole" My.s_law_whole ["_law_found"] := by
      dsimp only [L2.KOf]
      refine' L2.tx_mk KX G ?a ?l ?c ?k (fun _ _ _ _ _ _ us hl => match us, hl with | [_], _ => rfl)
      (case a => k_is); (case l => k_is); (case c => k_is); (case k => k_is)
    have t_law_thing : L2.Tx (L2.KOf KX) mg "_law_thing" My.s_law_thing ["_law_cell"] := by
      dsimp only [L2.KOf]
      refine' L2.tx_mk KX G ?a ?l ?c ?k (fun _ _ _ _ _ _ us hl => match us, hl with | [_], _ => rfl)
      (case a => k_is); (case l => k_is); (case c => k_is); (case k => k_is)
    have t_law_kinds : L2.Tx (L2.KOf KX) mg "_law_kinds" My.s_law_kinds ["_law_e"] := by
      dsimp only [L2.KOf]
      refine' L2.tx_mk KX G ?a ?l ?c ?k (fun _ _ _ _ _ _ us hl => match us, hl with | [_], _ => rfl)
      (case a => k_is); (case l => k_is); (case c => k_is); (case k => k_is)
    have t_is_length : L2.Tx (L2.KOf KX) mg "is_length" My.s_is_length ["thing"] := by
      dsimp only [L2.KOf]
      refine' L2.tx_mk KX G ?a ?l ?c ?k (fun _ _ _ _ _ _ us hl => match us, hl with | [_], _ => rfl)
      (case a => k_is); (case l => k_is); (case c => k_is); (case k => k_is)
    have t_is_cell : L2.Tx (L2.KOf KX) mg "is_cell" My.s_is_cell ["thing"] := by
      dsimp only [L2.KOf]
      refine' L2.tx_mk KX G ?a ?l ?c ?k (fun _ _ _ _ _ _ us hl => match us, hl with | [_], _ => rfl)
      (case a => k_is); (case l => k_is); (case c => k_is); (case k => k_is)
    have t_floor_of : L2.Tx (L2.KOf KX) mg "floor_of" My.s_floor_of ["wide", "high"] := by
      dsimp only [L2.KOf]
      refine' L2.tx_mk KX G ?a ?l ?c ?k (fun _ _ _ _ _ _ us hl => match us, hl with | [_, _], _ => rfl)
      (case a => k_is); (case l => k_is); (case c => k_is); (case k => k_is)
    have t_cells_of : L2.Tx (L2.KOf KX) mg "cells_of" My.s_cells_of ["some"] := by
      dsimp only [L2.KOf]
      refine' L2.tx_mk KX G ?a ?l ?c ?k (fun _ _ _ _ _ _ us hl => match us, hl with | [_], _ => rfl)
      (case a => k_is); (case l => k_is); (case c => k_is); (case k => k_is)
    have t_law_fields : L2.Tx (L2.KOf KX) mg "_law_fields" My.s_law_fields ["_law_place"] := by
      dsimp only [L2.KOf]
      refine' L2.tx_mk KX G ?a ?l ?c ?k (fun _ _ _ _ _ _ us hl => match us, hl with | [_], _ => rfl)
      (case a => k_is); (case l => k_is); (case c => k_is); (case k => k_is)
    have t_law_classes : L2.Tx (L2.KOf KX) mg "_law_classes" My.s_law_classes [] := by
      dsimp only [L2.KOf]
      refine' L2.tx_mk KX G ?a ?l ?c ?k (fun _ _ _ _ _ _ us hl => match us, hl with | [], _ => rfl)
      (case a => k_is); (case l => k_is); (case c => k_is); (case k => k_is)
    have t_law_floor : L2.Tx (L2.KOf KX) mg "_law_floor" My.s_law_floor ["_law_wide", "_law_high"] := by
      dsimp only [L2.KOf]
      refine' L2.tx_mk KX G ?a ?l ?c ?k (fun _ _ _ _ _ _ us hl => match us, hl with | [_, _], _ => rfl)
      (case a => k_is); (case l => k_is); (case c => k_is); (case k => k_is)
    have t_law_floor_by_any : L2.Tx (L2.KOf KX) mg "_law_floor_by_any" My.s_law_floor_by_any ["_law_wide", "_law_high"] := by
      dsimp only [L2.KOf]
      refine' L2.tx_mk KX G ?a ?l ?c ?k (fun _ _ _ _ _ _ us hl => match us, hl with | [_, _], _ => rfl)
      (case a => k_is); (case l => k_is); (case c => k_is); (case k => k_is)
    have t_law_cells : L2.Tx (L2.KOf KX) mg "_law_cells" My.s_law_cells ["_law_some"] := by
      dsimp only [L2.KOf]
      refine' L2.tx_mk KX G ?a ?l ?c ?k (fun _ _ _ _ _ _ us hl => match us, hl with | [_], _ => rfl)
      (case a => k_is); (case l => k_is); (case c => k_is); (case k => k_is)
    have t_law_cells_by_any : L2.Tx (L2.KOf KX) mg "_law_cells_by_any" My.s_law_cells_by_any ["_law_some"] := by
      dsimp only [L2.KOf]
      refine' L2.tx_mk KX G ?a ?l ?c ?k (fun _ _ _ _ _ _ us hl => match us, hl with | [_], _ => rfl)
      (case a => k_is); (case l => k_is); (case c => k_is); (case k => k_is)
    have t_law : L2.Tx (L2.KOf KX) mg "law" My.s_law ["_law_script"] := by
      dsimp only [L2.KOf]
      refine' L2.tx_mk KX G ?a ?l ?c ?k (fun _ _ _ _ _ _ us hl => match us, hl with | [_], _ => rfl)
      (case a => k_is); (case l => k_is); (case c => k_is); (case k => k_is)
    obtain ⟨f, fd, F, b, hm⟩ := t_law.ex
    have e0 := hmg.symm.trans hm
    cases e0
    obtain ⟨oc, od, kV, doc, pm, an, cdv, ct, osl, rfl, lk, hcd⟩ := id F.ex
    refine ⟨PySem.W.fnOf "law" "law" (L2.defArgs My.s_law) (L2.defBody My.s_law) (L2.defScope My.s_law) .none kV doc pm an cdv ct, fun s u => .of_eq rfl, fun base kb nb => ?_⟩
    have g_SIDE : ∃ t, mg "SIDE" = some (.int 8 t) := by
      refine' L2.gint_mk KX G ?a
      (case a => k_is)
    have b_ValueError : mg "ValueError" = none := by
      refine' L2.none_mk KX G ?a
      (case a => k_is)
    obtain ⟨C_BadFloor, C_BadTerm, C_BadCells, C_BadFraction, C_BadShares, C_TooLittle, C_TooFine, C_Late, C_Full, C_OtherKnown, C_NoText, C_NoRow, C_BadPaper, C_Falls, C_LandError, z_BadFloor, z_BadTerm, z_BadCells, z_BadFraction, z_BadShares, z_TooLittle, z_TooFine, z_Late, z_Full, z_OtherKnown, z_NoText, z_NoRow, z_BadPaper, z_Falls, r_BadPaper_place, r_Falls_word, r_Falls_who, z_LandError, l_LandError, w_BadPaper_place, x_BadPaper, w_Falls_word, w_Falls_who, x_Falls⟩ : ∃ C_BadFloor C_BadTerm C_BadCells C_BadFraction C_BadShares C_TooLittle C_TooFine C_Late C_Full C_OtherKnown C_NoText C_NoRow C_BadPaper C_Falls C_LandError, L2.ExcCl (L2.KOf KX) mg "BadFloor" C_BadFloor ∧ L2.ExcCl (L2.KOf KX) mg "BadTerm" C_BadTerm ∧ L2.ExcCl (L2.KOf KX) mg "BadCells" C_BadCells ∧ L2.ExcCl (L2.KOf KX) mg "BadFraction" C_BadFraction ∧ L2.ExcCl (L2.KOf KX) mg "BadShares" C_BadShares ∧ L2.ExcCl (L2.KOf KX) mg "TooLittle" C_TooLittle ∧ L2.ExcCl (L2.KOf KX) mg "TooFine" C_TooFine ∧ L2.ExcCl (L2.KOf KX) mg "Late" C_Late ∧ L2.ExcCl (L2.KOf KX) mg "Full" C_Full ∧ L2.ExcCl (L2.KOf KX) mg "OtherKnown" C_OtherKnown ∧ L2.ExcCl (L2.KOf KX) mg "NoText" C_NoText ∧ L2.ExcCl (L2.KOf KX) mg "NoRow" C_NoRow ∧ L2.ClsN mg "BadPaper" C_BadPaper ∧ L2.ClsN mg "Falls" C_Falls ∧ L2.RdX (L2.KOf KX) C_BadPaper "place" ∧ L2.RdX (L2.KOf KX) C_Falls "word" ∧ L2.RdX (L2.KOf KX) C_Falls "who" ∧ L2.ExcCl (L2.KOf KX) mg "LandError" C_LandError ∧ L2.ClsI (L2.KOf KX) mg "LandError" C_LandError ∧ L2.FldX (L2.KOf KX) C_BadPaper "place" ∧ L2.TxX (L2.KOf KX) mg "BadPaper" C_BadPaper My.i_BadPaper ["self", "text", "place"] "BadPaper.__init__" ∧ L2.FldX (L2.KOf KX) C_Falls "word" ∧ L2.FldX (L2.KOf KX) C_Falls "who" ∧ L2.TxX (L2.KOf KX) mg "Falls" C_Falls My.i_Falls ["self", "text", "word", "who"] "Falls.__init__" := by
      dsimp only [L2.KOf]
      refine' ⟨_, _, _, _, _, _, _, _, _, _, _, _, _, _, _, L2.exc_mk KX G ?z_BadFloora ?z_BadFloorb, L2.exc_mk KX G ?z_BadTerma ?z_BadTermb, L2.exc_mk KX G ?z_BadCellsa ?z_BadCellsb, L2.exc_mk KX G ?z_BadFractiona ?z_BadFractionb, L2.exc_mk KX G ?z_BadSharesa ?z_BadSharesb, L2.exc_mk KX G ?z_TooLittlea ?z_TooLittleb, L2.exc_mk KX G ?z_TooFinea ?z_TooFineb, L2.exc_mk KX G ?z_Latea ?z_Lateb, L2.exc_mk KX G ?z_Fulla ?z_Fullb, L2.exc_mk KX G ?z_OtherKnowna ?z_OtherKnownb, L2.exc_mk KX G ?z_NoTexta ?z_NoTextb, L2.exc_mk KX G ?z_NoRowa ?z_NoRowb, L2.clsN_mk KX G ?z_BadPapera, L2.clsN_mk KX G ?z_Fallsa, ⟨?r_BadPaper_placea, ?r_BadPaper_placeb, ?r_BadPaper_placec, ?r_BadPaper_placed⟩, ⟨?r_Falls_worda, ?r_Falls_wordb, ?r_Falls_wordc, ?r_Falls_wordd⟩, ⟨?r_Falls_whoa, ?r_Falls_whob, ?r_Falls_whoc, ?r_Falls_whod⟩, L2.exc_mk KX G ?z_LandErrora ?z_LandErrorb, L2.clsI_mk KX G ?l_LandErrora ?l_LandErrorb ?l_LandErrorc ?l_LandErrord, ⟨?w_BadPaper_placea, ?w_BadPaper_placeb, ?w_BadPaper_placec⟩, L2.txX_mk KX G ?x_BadPapera ?x_BadPaperb ?x_BadPaperc ?x_BadPaperd ?x_BadPapere ?x_BadPaperf ?x_BadPaperg ?x_BadPaperh (fun _ _ _ _ _ _ us hl => match us, hl with | [_, _, _], _ => rfl), ⟨?w_Falls_worda, ?w_Falls_wordb, ?w_Falls_wordc⟩, ⟨?w_Falls_whoa, ?w_Falls_whob, ?w_Falls_whoc⟩, L2.txX_mk KX G ?x_Fallsa ?x_Fallsb ?x_Fallsc ?x_Fallsd ?x_Fallse ?x_Fallsf ?x_Fallsg ?x_Fallsh (fun _ _ _ _ _ _ us hl => match us, hl with | [_, _, _, _], _ => rfl)⟩
      (case z_BadFloora => k_is)
      (case z_BadFloorb => k_exc)
      (case z_BadTerma => k_is)
      (case z_BadTermb => k_exc)
      (case z_BadCellsa => k_is)
      (case z_BadCellsb => k_exc)
      (case z_BadFractiona => k_is)
      (case z_BadFractionb => k_exc)
      (case z_BadSharesa => k_is)
      (case z_BadSharesb => k_exc)
      (case z_TooLittlea => k_is)
      (case z_TooLittleb => k_exc)
      (case z_TooFinea => k_is)
      (case z_TooFineb => k_exc)
      (case z_Latea => k_is)
      (case z_Lateb => k_exc)
      (case z_Fulla => k_is)
      (case z_Fullb => k_exc)
      (case z_OtherKnowna => k_is)
      (case z_OtherKnownb => k_exc)
      (case z_NoTexta => k_is)
      (case z_NoTextb => k_exc)
      (case z_NoRowa => k_is)
      (case z_NoRowb => k_exc)
      (case z_BadPapera => k_is)
      (case z_Fallsa => k_is)
      (case r_BadPaper_placea => kernel_rfl)
      (case r_BadPaper_placeb => k_is)
      (case r_BadPaper_placec => k_is)
      (case r_BadPaper_placed => k_is)
      (case r_Falls_worda => kernel_rfl)
      (case r_Falls_wordb => k_is)
      (case r_Falls_wordc => k_is)
      (case r_Falls_wordd => k_is)
      (case r_Falls_whoa => kernel_rfl)
      (case r_Falls_whob => k_is)
      (case r_Falls_whoc => k_is)
      (case r_Falls_whod => k_is)
      (case z_LandErrora => k_is)
      (case z_LandErrorb => k_exc)
      (case l_LandErrora => k_is)
      (case l_LandErrorb => k_is)
      (case l_LandErrorc => k_is)
      (case l_LandErrord => k_is)
      (case w_BadPaper_placea => k_is)
      (case w_BadPaper_placeb => kernel_rfl)
      (case w_BadPaper_placec => k_is)
      (case x_BadPapera => k_is)
      (case x_BadPaperb => k_is)
      (case x_BadPaperc => k_is)
      (case x_BadPaperd => k_is)
      (case x_BadPapere => k_is)
      (case x_BadPaperf => k_is)
      (case x_BadPaperg => k_is)
      (case x_BadPaperh => kernel_rfl)
      (case w_Falls_worda => k_is)
      (case w_Falls_wordb => kernel_rfl)
      (case w_Falls_wordc => k_is)
      (case w_Falls_whoa => k_is)
      (case w_Falls_whob => kernel_rfl)
      (case w_Falls_whoc => k_is)
      (case x_Fallsa => k_is)
      (case x_Fallsb => k_is)
      (case x_Fallsc => k_is)
      (case x_Fallsd => k_is)
      (case x_Fallse => k_is)
      (case x_Fallsf => k_is)
      (case x_Fallsg => k_is)
      (case x_Fallsh => kernel_rfl)
    obtain ⟨a_BadFloor, k_BadFloor_LandError, t_BadFloor_ValueError, k_BadFloor_BadFloor, k_BadFloor_BadCells, k_BadFloor_BadFraction, k_BadFloor_BadShares, k_BadFloor_TooLittle, k_BadFloor_TooFine, k_BadFloor_BadPaper, k_BadFloor_Falls, k_BadFloor_Late, k_BadFloor_Full, k_BadFloor_OtherKnown, k_BadFloor_NoText, k_BadFloor_NoRow, k_BadFloor_BadTerm, p_BadFloor, m_BadFloor_BadFloor, m_BadFloor_LandError⟩ : L2.ExcA (L2.KOf KX) C_BadFloor ∧ PySem.W.kitOne (L2.KOf KX) (.ref C_BadFloor) (.ref C_LandError) = some true ∧ PySem.W.kitOne (L2.KOf KX) (.ref C_BadFloor) (.type "ValueError") = some true ∧ PySem.W.kitOne (L2.KOf KX) (.ref C_BadFloor) (.ref C_BadFloor) = some true ∧ PySem.W.kitOne (L2.KOf KX) (.ref C_BadFloor) (.ref C_BadCells) = some false ∧ PySem.W.kitOne (L2.KOf KX) (.ref C_BadFloor) (.ref C_BadFraction) = some false ∧ PySem.W.kitOne (L2.KOf KX) (.ref C_BadFloor) (.ref C_BadShares) = some false ∧ PySem.W.kitOne (L2.KOf KX) (.ref C_BadFloor) (.ref C_TooLittle) = some false ∧ PySem.W.kitOne (L2.KOf KX) (.ref C_BadFloor) (.ref C_TooFine) = some false ∧ PySem.W.kitOne (L2.KOf KX) (.ref C_BadFloor) (.ref C_BadPaper) = some false ∧ PySem.W.kitOne (L2.KOf KX) (.ref C_BadFloor) (.ref C_Falls) = some false ∧ PySem.W.kitOne (L2.KOf KX) (.ref C_BadFloor) (.ref C_Late) = some false ∧ PySem.W.kitOne (L2.KOf KX) (.ref C_BadFloor) (.ref C_Full) = some false ∧ PySem.W.kitOne (L2.KOf KX) (.ref C_BadFloor) (.ref C_OtherKnown) = some false ∧ PySem.W.kitOne (L2.KOf KX) (.ref C_BadFloor) (.ref C_NoText) = some false ∧ PySem.W.kitOne (L2.KOf KX) (.ref C_BadFloor) (.ref C_NoRow) = some false ∧ PySem.W.kitOne (L2.KOf KX) (.ref C_BadFloor) (.ref C_BadTerm) = some false ∧ PySem.W.keepIn (L2.KOf KX) (.ref C_BadFloor) = true ∧ PySem.W.mroIn (L2.KOf KX) C_BadFloor (.ref C_BadFloor) = some true ∧ PySem.W.mroIn (L2.KOf KX) C_BadFloor (.ref C_LandError) = some true := by
      obtain ⟨c_BadFloor, c_BadTerm, c_BadCells, c_BadFraction, c_BadShares, c_TooLittle, c_TooFine, c_Late, c_Full, c_OtherKnown, c_NoText, c_NoRow, c_BadPaper, c_Falls, c_LandError, n_BadFloor, n_BadTerm, n_BadCells, n_BadFraction, n_BadShares, n_TooLittle, n_TooFine, n_Late, n_Full, n_OtherKnown, n_NoText, n_NoRow, n_BadPaper, n_Falls, n_LandError, a_BadFloor, k_BadFloor_LandError, t_BadFloor_ValueError, k_BadFloor_BadFloor, k_BadFloor_BadCells, k_BadFloor_BadFraction, k_BadFloor_BadShares, k_BadFloor_TooLittle, k_BadFloor_TooFine, k_BadFloor_BadPaper, k_BadFloor_Falls, k_BadFloor_Late, k_BadFloor_Full, k_BadFloor_OtherKnown, k_BadFloor_NoText, k_BadFloor_NoRow, k_BadFloor_BadTerm, p_BadFloor, m_BadFloor_BadFloor, m_BadFloor_LandError⟩ : ∃ c_BadFloor c_BadTerm c_BadCells c_BadFraction c_BadShares c_TooLittle c_TooFine c_Late c_Full c_OtherKnown c_NoText c_NoRow c_BadPaper c_Falls c_LandError, L2.ClsN mg "BadFloor" c_BadFloor ∧ L2.ClsN mg "BadTerm" c_BadTerm ∧ L2.ClsN mg "BadCells" c_BadCells ∧ L2.ClsN mg "BadFraction" c_BadFraction ∧ L2.ClsN mg "BadShares" c_BadShares ∧ L2.ClsN mg "TooLittle" c_TooLittle ∧ L2.ClsN mg "TooFine" c_TooFine ∧ L2.ClsN mg "Late" c_Late ∧ L2.ClsN mg "Full" c_Full ∧ L2.ClsN mg "OtherKnown" c_OtherKnown ∧ L2.ClsN mg "NoText" c_NoText ∧ L2.ClsN mg "NoRow" c_NoRow ∧ L2.ClsN mg "BadPaper" c_BadPaper ∧ L2.ClsN mg "Falls" c_Falls ∧ L2.ClsN mg "LandError" c_LandError ∧ L2.ExcA (L2.KOf KX) c_BadFloor ∧ PySem.W.kitOne (L2.KOf KX) (.ref c_BadFloor) (.ref c_LandError) = some true ∧ PySem.W.kitOne (L2.KOf KX) (.ref c_BadFloor) (.type "ValueError") = some true ∧ PySem.W.kitOne (L2.KOf KX) (.ref c_BadFloor) (.ref c_BadFloor) = some true ∧ PySem.W.kitOne (L2.KOf KX) (.ref c_BadFloor) (.ref c_BadCells) = some false ∧ PySem.W.kitOne (L2.KOf KX) (.ref c_BadFloor) (.ref c_BadFraction) = some false ∧ PySem.W.kitOne (L2.KOf KX) (.ref c_BadFloor) (.ref c_BadShares) = some false ∧ PySem.W.kitOne (L2.KOf KX) (.ref c_BadFloor) (.ref c_TooLittle) = some false ∧ PySem.W.kitOne (L2.KOf KX) (.ref c_BadFloor) (.ref c_TooFine) = some false ∧ PySem.W.kitOne (L2.KOf KX) (.ref c_BadFloor) (.ref c_BadPaper) = some false ∧ PySem.W.kitOne (L2.KOf KX) (.ref c_BadFloor) (.ref c_Falls) = some false ∧ PySem.W.kitOne (L2.KOf KX) (.ref c_BadFloor) (.ref c_Late) = some false ∧ PySem.W.kitOne (L2.KOf KX) (.ref c_BadFloor) (.ref c_Full) = some false ∧ PySem.W.kitOne (L2.KOf KX) (.ref c_BadFloor) (.ref c_OtherKnown) = some false ∧ PySem.W.kitOne (L2.KOf KX) (.ref c_BadFloor) (.ref c_NoText) = some false ∧ PySem.W.kitOne (L2.KOf KX) (.ref c_BadFloor) (.ref c_NoRow) = some false ∧ PySem.W.kitOne (L2.KOf KX) (.ref c_BadFloor) (.ref c_BadTerm) = some false ∧ PySem.W.keepIn (L2.KOf KX) (.ref c_BadFloor) = true ∧ PySem.W.mroIn (L2.KOf KX) c_BadFloor (.ref c_BadFloor) = some true ∧ PySem.W.mroIn (L2.KOf KX) c_BadFloor (.ref c_LandError) = some true := by
        dsimp only [L2.KOf]
        refine' ⟨_, _, _, _, _, _, _, _, _, _, _, _, _, _, _, L2.clsN_mk KX G ?n_BadFloora, L2.clsN_mk KX G ?n_BadTerma, L2.clsN_mk KX G ?n_BadCellsa, L2.clsN_mk KX G ?n_BadFractiona, L2.clsN_mk KX G ?n_BadSharesa, L2.clsN_mk KX G ?n_TooLittlea, L2.clsN_mk KX G ?n_TooFinea, L2.clsN_mk KX G ?n_Latea, L2.clsN_mk KX G ?n_Fulla, L2.clsN_mk KX G ?n_OtherKnowna, L2.clsN_mk KX G ?n_NoTexta, L2.clsN_mk KX G ?n_NoRowa, L2.clsN_mk KX G ?n_BadPapera, L2.clsN_mk KX G ?n_Fallsa, L2.clsN_mk KX G ?n_LandErrora, ⟨?a_BadFloora, ?a_BadFloorb, ?a_BadFloorc, ?a_BadFloord, ?a_BadFloore⟩, ?k_BadFloor_LandError, ?t_BadFloor_ValueError, ?k_BadFloor_BadFloor, ?k_BadFloor_BadCells, ?k_BadFloor_BadFraction, ?k_BadFloor_BadShares, ?k_BadFloor_TooLittle, ?k_BadFloor_TooFine, ?k_BadFloor_BadPaper, ?k_BadFloor_Falls, ?k_BadFloor_Late, ?k_BadFloor_Full, ?k_BadFloor_OtherKnown, ?k_BadFloor_NoText, ?k_BadFloor_NoRow, ?k_BadFloor_BadTerm, ?p_BadFloor, ?m_BadFloor_BadFloor, ?m_BadFloor_LandError⟩
        (case n_BadFloora => k_is)
        (case n_BadTerma => k_is)
        (case n_BadCellsa => k_is)
        (case n_BadFractiona => k_is)
        (case n_BadSharesa => k_is)
        (case n_TooLittlea => k_is)
        (case n_TooFinea => k_is)
        (case n_Latea => k_is)
        (case n_Fulla => k_is)
        (case n_OtherKnowna => k_is)
        (case n_NoTexta => k_is)
        (case n_NoRowa => k_is)
        (case n_BadPapera => k_is)
        (case n_Fallsa => k_is)
        (case n_LandErrora => k_is)
        (case a_BadFloora => k_is)
        (case a_BadFloorb => k_is)
        (case a_BadFloorc => k_is)
        (case a_BadFloord => k_is)
        (case a_BadFloore => k_is)
        (case k_BadFloor_LandError => kit_is)
        (case t_BadFloor_ValueError => kit_is)
        (case k_BadFloor_BadFloor => kit_is)
        (case k_BadFloor_BadCells => kit_is)
        (case k_BadFloor_BadFraction => kit_is)
        (case k_BadFloor_BadShares => kit_is)
        (case k_BadFloor_TooLittle => kit_is)
        (case k_BadFloor_TooFine => kit_is)
        (case k_BadFloor_BadPaper => kit_is)
        (case k_BadFloor_Falls => kit_is)
        (case k_BadFloor_Late => kit_is)
        (case k_BadFloor_Full => kit_is)
        (case k_BadFloor_OtherKnown => kit_is)
        (case k_BadFloor_NoText => kit_is)
        (case k_BadFloor_NoRow => kit_is)
        (case k_BadFloor_BadTerm => kit_is)
        (case p_BadFloor => k_is)
        (case m_BadFloor_BadFloor => k_is)
        (case m_BadFloor_LandError => k_is)
      obtain rfl : c_BadFloor = C_BadFloor := L2.ClsN.uniq n_BadFloor z_BadFloor.n
      obtain rfl : c_BadTerm = C_BadTerm := L2.ClsN.uniq n_BadTerm z_BadTerm.n
      obtain rfl : c_BadCells = C_BadCells := L2.ClsN.uniq n_BadCells z_BadCells.n
      obtain rfl : c_BadFraction = C_BadFraction := L2.ClsN.uniq n_BadFraction z_BadFraction.n
      obtain rfl : c_BadShares = C_BadShares := L2.ClsN.uniq n_BadShares z_BadShares.n
      obtain rfl : c_TooLittle = C_TooLittle := L2.ClsN.uniq n_TooLittle z_TooLittle.n
      obtain rfl : c_TooFine = C_TooFine := L2.ClsN.uniq n_TooFine z_TooFine.n
      obtain rfl : c_Late = C_Late := L2.ClsN.uniq n_Late z_Late.n
      obtain rfl : c_Full = C_Full := L2.ClsN.uniq n_Full z_Full.n
      obtain rfl : c_OtherKnown = C_OtherKnown := L2.ClsN.uniq n_OtherKnown z_OtherKnown.n
      obtain rfl : c_NoText = C_NoText := L2.ClsN.uniq n_NoText z_NoText.n
      obtain rfl : c_NoRow = C_NoRow := L2.ClsN.uniq n_NoRow z_NoRow.n
      obtain rfl : c_BadPaper = C_BadPaper := L2.ClsN.uniq n_BadPaper z_BadPaper
      obtain rfl : c_Falls = C_Falls := L2.ClsN.uniq n_Falls z_Falls
      obtain rfl : c_LandError = C_LandError := L2.ClsN.uniq n_LandError z_LandError.n
      exact ⟨a_BadFloor, k_BadFloor_LandError, t_BadFloor_ValueError, k_BadFloor_BadFloor, k_BadFloor_BadCells, k_BadFloor_BadFraction, k_BadFloor_BadShares, k_BadFloor_TooLittle, k_BadFloor_TooFine, k_BadFloor_BadPaper, k_BadFloor_Falls, k_BadFloor_Late, k_BadFloor_Full, k_BadFloor_OtherKnown, k_BadFloor_NoText, k_BadFloor_NoRow, k_BadFloor_BadTerm, p_BadFloor, m_BadFloor_BadFloor, m_BadFloor_LandError⟩
    obtain ⟨a_BadTerm, k_BadTerm_LandError, t_BadTerm_ValueError, k_BadTerm_BadFloor, k_BadTerm_BadCells, k_BadTerm_BadFraction, k_BadTerm_BadShares, k_BadTerm_TooLittle, k_BadTerm_TooFine, k_BadTerm_BadPaper, k_BadTerm_Falls, k_BadTerm_Late, k_BadTerm_Full, k_BadTerm_OtherKnown, k_BadTerm_NoText, k_BadTerm_NoRow, k_BadTerm_BadTerm, p_BadTerm⟩ : L2.ExcA (L2.KOf KX) C_BadTerm ∧ PySem.W.kitOne (L2.KOf KX) (.ref C_BadTerm) (.ref C_LandError) = some true ∧ PySem.W.kitOne (L2.KOf KX) (.ref C_BadTerm) (.type "ValueError") = some true ∧ PySem.W.kitOne (L2.KOf KX) (.ref C_BadTerm) (.ref C_BadFloor) = some false ∧ PySem.W.kitOne (L2.KOf KX) (.ref C_BadTerm) (.ref C_BadCells) = some false ∧ PySem.W.kitOne (L2.KOf KX) (.ref C_BadTerm) (.ref C_BadFraction) = some false ∧ PySem.W.kitOne (L2.KOf KX) (.ref C_BadTerm) (.ref C_BadShares) = some false ∧ PySem.W.kitOne (L2.KOf KX) (.ref C_BadTerm) (.ref C_TooLittle) = some false ∧ PySem.W.kitOne (L2.KOf KX) (.ref C_BadTerm) (.ref C_TooFine) = some false ∧ PySem.W.kitOne (L2.KOf KX) (.ref C_BadTerm) (.ref C_BadPaper) = some false ∧ PySem.W.kitOne (L2.KOf KX) (.ref C_BadTerm) (.ref C_Falls) = some false ∧ PySem.W.kitOne (L2.KOf KX) (.ref C_BadTerm) (.ref C_Late) = some false ∧ PySem.W.kitOne (L2.KOf KX) (.ref C_BadTerm) (.ref C_Full) = some false ∧ PySem.W.kitOne (L2.KOf KX) (.ref C_BadTerm) (.ref C_OtherKnown) = some false ∧ PySem.W.kitOne (L2.KOf KX) (.ref C_BadTerm) (.ref C_NoText) = some false ∧ PySem.W.kitOne (L2.KOf KX) (.ref C_BadTerm) (.ref C_NoRow) = some false ∧ PySem.W.kitOne (L2.KOf KX) (.ref C_BadTerm) (.ref C_BadTerm) = some true ∧ PySem.W.keepIn (L2.KOf KX) (.ref C_BadTerm) = true := by
      obtain ⟨c_BadFloor, c_BadTerm, c_BadCells, c_BadFraction, c_BadShares, c_TooLittle, c_TooFine, c_Late, c_Full, c_OtherKnown, c_NoText, c_NoRow, c_BadPaper, c_Falls, c_LandError, n_BadFloor, n_BadTerm, n_BadCells, n_BadFraction, n_BadShares, n_TooLittle, n_TooFine, n_Late, n_Full, n_OtherKnown, n_NoText, n_NoRow, n_BadPaper, n_Falls, n_LandError, a_BadTerm, k_BadTerm_LandError, t_BadTerm_ValueError, k_BadTerm_BadFloor, k_BadTerm_BadCells, k_BadTerm_BadFraction, k_BadTerm_BadShares, k_BadTerm_TooLittle, k_BadTerm_TooFine, k_BadTerm_BadPaper, k_BadTerm_Falls, k_BadTerm_Late, k_BadTerm_Full, k_BadTerm_OtherKnown, k_BadTerm_NoText, k_BadTerm_NoRow, k_BadTerm_BadTerm, p_BadTerm⟩ : ∃ c_BadFloor c_BadTerm c_BadCells c_BadFraction c_BadShares c_TooLittle c_TooFine c_Late c_Full c_OtherKnown c_NoText c_NoRow c_BadPaper c_Falls c_LandError, L2.ClsN mg "BadFloor" c_BadFloor ∧ L2.ClsN mg "BadTerm" c_BadTerm ∧ L2.ClsN mg "BadCells" c_BadCells ∧ L2.ClsN mg "BadFraction" c_BadFraction ∧ L2.ClsN mg "BadShares" c_BadShares ∧ L2.ClsN mg "TooLittle" c_TooLittle ∧ L2.ClsN mg "TooFine" c_TooFine ∧ L2.ClsN mg "Late" c_Late ∧ L2.ClsN mg "Full" c_Full ∧ L2.ClsN mg "OtherKnown" c_OtherKnown ∧ L2.ClsN mg "NoText" c_NoText ∧ L2.ClsN mg "NoRow" c_NoRow ∧ L2.ClsN mg "BadPaper" c_BadPaper ∧ L2.ClsN mg "Falls" c_Falls ∧ L2.ClsN mg "LandError" c_LandError ∧ L2.ExcA (L2.KOf KX) c_BadTerm ∧ PySem.W.kitOne (L2.KOf KX) (.ref c_BadTerm) (.ref c_LandError) = some true ∧ PySem.W.kitOne (L2.KOf KX) (.ref c_BadTerm) (.type "ValueError") = some true ∧ PySem.W.kitOne (L2.KOf KX) (.ref c_BadTerm) (.ref c_BadFloor) = some false ∧ PySem.W.kitOne (L2.KOf KX) (.ref c_BadTerm) (.ref c_BadCells) = some false ∧ PySem.W.kitOne (L2.KOf KX) (.ref c_BadTerm) (.ref c_BadFraction) = some false ∧ PySem.W.kitOne (L2.KOf KX) (.ref c_BadTerm) (.ref c_BadShares) = some false ∧ PySem.W.kitOne (L2.KOf KX) (.ref c_BadTerm) (.ref c_TooLittle) = some false ∧ PySem.W.kitOne (L2.KOf KX) (.ref c_BadTerm) (.ref c_TooFine) = some false ∧ PySem.W.kitOne (L2.KOf KX) (.ref c_BadTerm) (.ref c_BadPaper) = some false ∧ PySem.W.kitOne (L2.KOf KX) (.ref c_BadTerm) (.ref c_Falls) = some false ∧ PySem.W.kitOne (L2.KOf KX) (.ref c_BadTerm) (.ref c_Late) = some false ∧ PySem.W.kitOne (L2.KOf KX) (.ref c_BadTerm) (.ref c_Full) = some false ∧ PySem.W.kitOne (L2.KOf KX) (.ref c_BadTerm) (.ref c_OtherKnown) = some false ∧ PySem.W.kitOne (L2.KOf KX) (.ref c_BadTerm) (.ref c_NoText) = some false ∧ PySem.W.kitOne (L2.KOf KX) (.ref c_BadTerm) (.ref c_NoRow) = some false ∧ PySem.W.kitOne (L2.KOf KX) (.ref c_BadTerm) (.ref c_BadTerm) = some true ∧ PySem.W.keepIn (L2.KOf KX) (.ref c_BadTerm) = true := by
        dsimp only [L2.KOf]
        refine' ⟨_, _, _, _, _, _, _, _, _, _, _, _, _, _, _, L2.clsN_mk KX G ?n_BadFloora, L2.clsN_mk KX G ?n_BadTerma, L2.clsN_mk KX G ?n_BadCellsa, L2.clsN_mk KX G ?n_BadFractiona, L2.clsN_mk KX G ?n_BadSharesa, L2.clsN_mk KX G ?n_TooLittlea, L2.clsN_mk KX G ?n_TooFinea, L2.clsN_mk KX G ?n_Latea, L2.clsN_mk KX G ?n_Fulla, L2.clsN_mk KX G ?n_OtherKnowna, L2.clsN_mk KX G ?n_NoTexta, L2.clsN_mk KX G ?n_NoRowa, L2.clsN_mk KX G ?n_BadPapera, L2.clsN_mk KX G ?n_Fallsa, L2.clsN_mk KX G ?n_LandErrora, ⟨?a_BadTerma, ?a_BadTermb, ?a_BadTermc, ?a_BadTermd, ?a_BadTerme⟩, ?k_BadTerm_LandError, ?t_BadTerm_ValueError, ?k_BadTerm_BadFloor, ?k_BadTerm_BadCells, ?k_BadTerm_BadFraction, ?k_BadTerm_BadShares, ?k_BadTerm_TooLittle, ?k_BadTerm_TooFine, ?k_BadTerm_BadPaper, ?k_BadTerm_Falls, ?k_BadTerm_Late, ?k_BadTerm_Full, ?k_BadTerm_OtherKnown, ?k_BadTerm_NoText, ?k_BadTerm_NoRow, ?k_BadTerm_BadTerm, ?p_BadTerm⟩
        (case n_BadFloora => k_is)
        (case n_BadTerma => k_is)
        (case n_BadCellsa => k_is)
        (case n_BadFractiona => k_is)
        (case n_BadSharesa => k_is)
        (case n_TooLittlea => k_is)
        (case n_TooFinea => k_is)
        (case n_Latea => k_is)
        (case n_Fulla => k_is)
        (case n_OtherKnowna => k_is)
        (case n_NoTexta => k_is)
        (case n_NoRowa => k_is)
        (case n_BadPapera => k_is)
        (case n_Fallsa => k_is)
        (case n_LandErrora => k_is)
        (case a_BadTerma => k_is)
        (case a_BadTermb => k_is)
        (case a_BadTermc => k_is)
        (case a_BadTermd => k_is)
        (case a_BadTerme => k_is)
        (case k_BadTerm_LandError => kit_is)
        (case t_BadTerm_ValueError => kit_is)
        (case k_BadTerm_BadFloor => kit_is)
        (case k_BadTerm_BadCells => kit_is)
        (case k_BadTerm_BadFraction => kit_is)
        (case k_BadTerm_BadShares => kit_is)
        (case k_BadTerm_TooLittle => kit_is)
        (case k_BadTerm_TooFine => kit_is)
        (case k_BadTerm_BadPaper => kit_is)
        (case k_BadTerm_Falls => kit_is)
        (case k_BadTerm_Late => kit_is)
        (case k_BadTerm_Full => kit_is)
        (case k_BadTerm_OtherKnown => kit_is)
        (case k_BadTerm_NoText => kit_is)
        (case k_BadTerm_NoRow => kit_is)
        (case k_BadTerm_BadTerm => kit_is)
        (case p_BadTerm => k_is)
      obtain rfl : c_BadFloor = C_BadFloor := L2.ClsN.uniq n_BadFloor z_BadFloor.n
      obtain rfl : c_BadTerm = C_BadTerm := L2.ClsN.uniq n_BadTerm z_BadTerm.n
      obtain rfl : c_BadCells = C_BadCells := L2.ClsN.uniq n_BadCells z_BadCells.n
      obtain rfl : c_BadFraction = C_BadFraction := L2.ClsN.uniq n_BadFraction z_BadFraction.n
      obtain rfl : c_BadShares = C_BadShares := L2.ClsN.uniq n_BadShares z_BadShares.n
      obtain rfl : c_TooLittle = C_TooLittle := L2.ClsN.uniq n_TooLittle z_TooLittle.n
      obtain rfl : c_TooFine = C_TooFine := L2.ClsN.uniq n_TooFine z_TooFine.n
      obtain rfl : c_Late = C_Late := L2.ClsN.uniq n_Late z_Late.n
      obtain rfl : c_Full = C_Full := L2.ClsN.uniq n_Full z_Full.n
      obtain rfl : c_OtherKnown = C_OtherKnown := L2.ClsN.uniq n_OtherKnown z_OtherKnown.n
      obtain rfl : c_NoText = C_NoText := L2.ClsN.uniq n_NoText z_NoText.n
      obtain rfl : c_NoRow = C_NoRow := L2.ClsN.uniq n_NoRow z_NoRow.n
      obtain rfl : c_BadPaper = C_BadPaper := L2.ClsN.uniq n_BadPaper z_BadPaper
      obtain rfl : c_Falls = C_Falls := L2.ClsN.uniq n_Falls z_Falls
      obtain rfl : c_LandError = C_LandError := L2.ClsN.uniq n_LandError z_LandError.n
      exact ⟨a_BadTerm, k_BadTerm_LandError, t_BadTerm_ValueError, k_BadTerm_BadFloor, k_BadTerm_BadCells, k_BadTerm_BadFraction, k_BadTerm_BadShares, k_BadTerm_TooLittle, k_BadTerm_TooFine, k_BadTerm_BadPaper, k_BadTerm_Falls, k_BadTerm_Late, k_BadTerm_Full, k_BadTerm_OtherKnown, k_BadTerm_NoText, k_BadTerm_NoRow, k_BadTerm_BadTerm, p_BadTerm⟩
    obtain ⟨a_BadCells, k_BadCells_LandError, t_BadCells_ValueError, k_BadCells_BadFloor, k_BadCells_BadCells, k_BadCells_BadFraction, k_BadCells_BadShares, k_BadCells_TooLittle, k_BadCells_TooFine, k_BadCells_BadPaper, k_BadCells_Falls, k_BadCells_Late, k_BadCells_Full, k_BadCells_OtherKnown, k_BadCells_NoText, k_BadCells_NoRow, k_BadCells_BadTerm, p_BadCells, m_BadCells_BadCells, m_BadCells_LandError⟩ : L2.ExcA (L2.KOf KX) C_BadCells ∧ PySem.W.kitOne (L2.KOf KX) (.ref C_BadCells) (.ref C_LandError) = some true ∧ PySem.W.kitOne (L2.KOf KX) (.ref C_BadCells) (.type "ValueError") = some true ∧ PySem.W.kitOne (L2.KOf KX) (.ref C_BadCells) (.ref C_BadFloor) = some false ∧ PySem.W.kitOne (L2.KOf KX) (.ref C_BadCells) (.ref C_BadCells) = some true ∧ PySem.W.kitOne (L2.KOf KX) (.ref C_BadCells) (.ref C_BadFraction) = some false ∧ PySem.W.kitOne (L2.KOf KX) (.ref C_BadCells) (.ref C_BadShares) = some false ∧ PySem.W.kitOne (L2.KOf KX) (.ref C_BadCells) (.ref C_TooLittle) = some false ∧ PySem.W.kitOne (L2.KOf KX) (.ref C_BadCells) (.ref C_TooFine) = some false ∧ PySem.W.kitOne (L2.KOf KX) (.ref C_BadCells) (.ref C_BadPaper) = some false ∧ PySem.W.kitOne (L2.KOf KX) (.ref C_BadCells) (.ref C_Falls) = some false ∧ PySem.W.kitOne (L2.KOf KX) (.ref C_BadCells) (.ref C_Late) = some false ∧ PySem.W.kitOne (L2.KOf KX) (.ref C_BadCells) (.ref C_Full) = some false ∧ PySem.W.kitOne (L2.KOf KX) (.ref C_BadCells) (.ref C_OtherKnown) = some false ∧ PySem.W.kitOne (L2.KOf KX) (.ref C_BadCells) (.ref C_NoText) = some false ∧ PySem.W.kitOne (L2.KOf KX) (.ref C_BadCells) (.ref C_NoRow) = some false ∧ PySem.W.kitOne (L2.KOf KX) (.ref C_BadCells) (.ref C_BadTerm) = some false ∧ PySem.W.keepIn (L2.KOf KX) (.ref C_BadCells) = true ∧ PySem.W.mroIn (L2.KOf KX) C_BadCells (.ref C_BadCells) = some true ∧ PySem.W.mroIn (L2.KOf KX) C_BadCells (.ref C_LandError) = some true := by
      obtain ⟨c_BadFloor, c_BadTerm, c_BadCells, c_BadFraction, c_BadShares, c_TooLittle, c_TooFine, c_Late, c_Full, c_OtherKnown, c_NoText, c_NoRow, c_BadPaper, c_Falls, c_LandError, n_BadFloor, n_BadTerm, n_BadCells, n_BadFraction, n_BadShares, n_TooLittle, n_TooFine, n_Late, n_Full, n_OtherKnown, n_NoText, n_NoRow, n_BadPaper, n_Falls, n_LandError, a_BadCells, k_BadCells_LandError, t_BadCells_ValueError, k_BadCells_BadFloor, k_BadCells_BadCells, k_BadCells_BadFraction, k_BadCells_BadShares, k_BadCells_TooLittle, k_BadCells_TooFine, k_BadCells_BadPaper, k_BadCells_Falls, k_BadCells_Late, k_BadCells_Full, k_BadCells_OtherKnown, k_BadCells_NoText, k_BadCells_NoRow, k_BadCells_BadTerm, p_BadCells, m_BadCells_BadCells, m_BadCells_LandError⟩ : ∃ c_BadFloor c_BadTerm c_BadCells c_BadFraction c_BadShares c_TooLittle c_TooFine c_Late c_Full c_OtherKnown c_NoText c_NoRow c_BadPaper c_Falls c_LandError, L2.ClsN mg "BadFloor" c_BadFloor ∧ L2.ClsN mg "BadTerm" c_BadTerm ∧ L2.ClsN mg "BadCells" c_BadCells ∧ L2.ClsN mg "BadFraction" c_BadFraction ∧ L2.ClsN mg "BadShares" c_BadShares ∧ L2.ClsN mg "TooLittle" c_TooLittle ∧ L2.ClsN mg "TooFine" c_TooFine ∧ L2.ClsN mg "Late" c_Late ∧ L2.ClsN mg "Full" c_Full ∧ L2.ClsN mg "OtherKnown" c_OtherKnown ∧ L2.ClsN mg "NoText" c_NoText ∧ L2.ClsN mg "NoRow" c_NoRow ∧ L2.ClsN mg "BadPaper" c_BadPaper ∧ L2.ClsN mg "Falls" c_Falls ∧ L2.ClsN mg "LandError" c_LandError ∧ L2.ExcA (L2.KOf KX) c_BadCells ∧ PySem.W.kitOne (L2.KOf KX) (.ref c_BadCells) (.ref c_LandError) = some true ∧ PySem.W.kitOne (L2.KOf KX) (.ref c_BadCells) (.type "ValueError") = some true ∧ PySem.W.kitOne (L2.KOf KX) (.ref c_BadCells) (.ref c_BadFloor) = some false ∧ PySem.W.kitOne (L2.KOf KX) (.ref c_BadCells) (.ref c_BadCells) = some true ∧ PySem.W.kitOne (L2.KOf KX) (.ref c_BadCells) (.ref c_BadFraction) = some false ∧ PySem.W.kitOne (L2.KOf KX) (.ref c_BadCells) (.ref c_BadShares) = some false ∧ PySem.W.kitOne (L2.KOf KX) (.ref c_BadCells) (.ref c_TooLittle) = some false ∧ PySem.W.kitOne (L2.KOf KX) (.ref c_BadCells) (.ref c_TooFine) = some false ∧ PySem.W.kitOne (L2.KOf KX) (.ref c_BadCells) (.ref c_BadPaper) = some false ∧ PySem.W.kitOne (L2.KOf KX) (.ref c_BadCells) (.ref c_Falls) = some false ∧ PySem.W.kitOne (L2.KOf KX) (.ref c_BadCells) (.ref c_Late) = some false ∧ PySem.W.kitOne (L2.KOf KX) (.ref c_BadCells) (.ref c_Full) = some false ∧ PySem.W.kitOne (L2.KOf KX) (.ref c_BadCells) (.ref c_OtherKnown) = some false ∧ PySem.W.kitOne (L2.KOf KX) (.ref c_BadCells) (.ref c_NoText) = some false ∧ PySem.W.kitOne (L2.KOf KX) (.ref c_BadCells) (.ref c_NoRow) = some false ∧ PySem.W.kitOne (L2.KOf KX) (.ref c_BadCells) (.ref c_BadTerm) = some false ∧ PySem.W.keepIn (L2.KOf KX) (.ref c_BadCells) = true ∧ PySem.W.mroIn (L2.KOf KX) c_BadCells (.ref c_BadCells) = some true ∧ PySem.W.mroIn (L2.KOf KX) c_BadCells (.ref c_LandError) = some true := by
        dsimp only [L2.KOf]
        refine' ⟨_, _, _, _, _, _, _, _, _, _, _, _, _, _, _, L2.clsN_mk KX G ?n_BadFloora, L2.clsN_mk KX G ?n_BadTerma, L2.clsN_mk KX G ?n_BadCellsa, L2.clsN_mk KX G ?n_BadFractiona, L2.clsN_mk KX G ?n_BadSharesa, L2.clsN_mk KX G ?n_TooLittlea, L2.clsN_mk KX G ?n_TooFinea, L2.clsN_mk KX G ?n_Latea, L2.clsN_mk KX G ?n_Fulla, L2.clsN_mk KX G ?n_OtherKnowna, L2.clsN_mk KX G ?n_NoTexta, L2.clsN_mk KX G ?n_NoRowa, L2.clsN_mk KX G ?n_BadPapera, L2.clsN_mk KX G ?n_Fallsa, L2.clsN_mk KX G ?n_LandErrora, ⟨?a_BadCellsa, ?a_BadCellsb, ?a_BadCellsc, ?a_BadCellsd, ?a_BadCellse⟩, ?k_BadCells_LandError, ?t_BadCells_ValueError, ?k_BadCells_BadFloor, ?k_BadCells_BadCells, ?k_BadCells_BadFraction, ?k_BadCells_BadShares, ?k_BadCells_TooLittle, ?k_BadCells_TooFine, ?k_BadCells_BadPaper, ?k_BadCells_Falls, ?k_BadCells_Late, ?k_BadCells_Full, ?k_BadCells_OtherKnown, ?k_BadCells_NoText, ?k_BadCells_NoRow, ?k_BadCells_BadTerm, ?p_BadCells, ?m_BadCells_BadCells, ?m_BadCells_LandError⟩
        (case n_BadFloora => k_is)
        (case n_BadTerma => k_is)
        (case n_BadCellsa => k_is)
        (case n_BadFractiona => k_is)
        (case n_BadSharesa => k_is)
        (case n_TooLittlea => k_is)
        (case n_TooFinea => k_is)
        (case n_Latea => k_is)
        (case n_Fulla => k_is)
        (case n_OtherKnowna => k_is)
        (case n_NoTexta => k_is)
        (case n_NoRowa => k_is)
        (case n_BadPapera => k_is)
        (case n_Fallsa => k_is)
        (case n_LandErrora => k_is)
        (case a_BadCellsa => k_is)
        (case a_BadCellsb => k_is)
        (case a_BadCellsc => k_is)
        (case a_BadCellsd => k_is)
        (case a_BadCellse => k_is)
        (case k_BadCells_LandError => kit_is)
        (case t_BadCells_ValueError => kit_is)
        (case k_BadCells_BadFloor => kit_is)
        (case k_BadCells_BadCells => kit_is)
        (case k_BadCells_BadFraction => kit_is)
        (case k_BadCells_BadShares => kit_is)
        (case k_BadCells_TooLittle => kit_is)
        (case k_BadCells_TooFine => kit_is)
        (case k_BadCells_BadPaper => kit_is)
        (case k_BadCells_Falls => kit_is)
        (case k_BadCells_Late => kit_is)
        (case k_BadCells_Full => kit_is)
        (case k_BadCells_OtherKnown => kit_is)
        (case k_BadCells_NoText => kit_is)
        (case k_BadCells_NoRow => kit_is)
        (case k_BadCells_BadTerm => kit_is)
        (case p_BadCells => k_is)
        (case m_BadCells_BadCells => k_is)
        (case m_BadCells_LandError => k_is)
      obtain rfl : c_BadFloor = C_BadFloor := L2.ClsN.uniq n_BadFloor z_BadFloor.n
      obtain rfl : c_BadTerm = C_BadTerm := L2.ClsN.uniq n_BadTerm z_BadTerm.n
      obtain rfl : c_BadCells = C_BadCells := L2.ClsN.uniq n_BadCells z_BadCells.n
      obtain rfl : c_BadFraction = C_BadFraction := L2.ClsN.uniq n_BadFraction z_BadFraction.n
      obtain rfl : c_BadShares = C_BadShares := L2.ClsN.uniq n_BadShares z_BadShares.n
      obtain rfl : c_TooLittle = C_TooLittle := L2.ClsN.uniq n_TooLittle z_TooLittle.n
      obtain rfl : c_TooFine = C_TooFine := L2.ClsN.uniq n_TooFine z_TooFine.n
      obtain rfl : c_Late = C_Late := L2.ClsN.uniq n_Late z_Late.n
      obtain rfl : c_Full = C_Full := L2.ClsN.uniq n_Full z_Full.n
      obtain rfl : c_OtherKnown = C_OtherKnown := L2.ClsN.uniq n_OtherKnown z_OtherKnown.n
      obtain rfl : c_NoText = C_NoText := L2.ClsN.uniq n_NoText z_NoText.n
      obtain rfl : c_NoRow = C_NoRow := L2.ClsN.uniq n_NoRow z_NoRow.n
      obtain rfl : c_BadPaper = C_BadPaper := L2.ClsN.uniq n_BadPaper z_BadPaper
      obtain rfl : c_Falls = C_Falls := L2.ClsN.uniq n_Falls z_Falls
      obtain rfl : c_LandError = C_LandError := L2.ClsN.uniq n_LandError z_LandError.n
      exact ⟨a_BadCells, k_BadCells_LandError, t_BadCells_ValueError, k_BadCells_BadFloor, k_BadCells_BadCells, k_BadCells_BadFraction, k_BadCells_BadShares, k_BadCells_TooLittle, k_BadCells_TooFine, k_BadCells_BadPaper, k_BadCells_Falls, k_BadCells_Late, k_BadCells_Full, k_BadCells_OtherKnown, k_BadCells_NoText, k_BadCells_NoRow, k_BadCells_BadTerm, p_BadCells, m_BadCells_BadCells, m_BadCells_LandError⟩
    obtain ⟨a_BadFraction, k_BadFraction_LandError, t_BadFraction_ValueError, k_BadFraction_BadFloor, k_BadFraction_BadCells, k_BadFraction_BadFraction, k_BadFraction_BadShares, k_BadFraction_TooLittle, k_BadFraction_TooFine, k_BadFraction_BadPaper, k_BadFraction_Falls, k_BadFraction_Late, k_BadFraction_Full, k_BadFraction_OtherKnown, k_BadFraction_NoText, k_BadFraction_NoRow, k_BadFraction_BadTerm, p_BadFraction⟩ : L2.ExcA (L2.KOf KX) C_BadFraction ∧ PySem.W.kitOne (L2.KOf KX) (.ref C_BadFraction) (.ref C_LandError) = some true ∧ PySem.W.kitOne (L2.KOf KX) (.ref C_BadFraction) (.type "ValueError") = some true ∧ PySem.W.kitOne (L2.KOf KX) (.ref C_BadFraction) (.ref C_BadFloor) = some false ∧ PySem.W.kitOne (L2.KOf KX) (.ref C_BadFraction) (.ref C_BadCells) = some false ∧ PySem.W.kitOne (L2.KOf KX) (.ref C_BadFraction) (.ref C_BadFraction) = some true ∧ PySem.W.kitOne (L2.KOf KX) (.ref C_BadFraction) (.ref C_BadShares) = some false ∧ PySem.W.kitOne (L2.KOf KX) (.ref C_BadFraction) (.ref C_TooLittle) = some false ∧ PySem.W.kitOne (L2.KOf KX) (.ref C_BadFraction) (.ref C_TooFine) = some false ∧ PySem.W.kitOne (L2.KOf KX) (.ref C_BadFraction) (.ref C_BadPaper) = some false ∧ PySem.W.kitOne (L2.KOf KX) (.ref C_BadFraction) (.ref C_Falls) = some false ∧ PySem.W.kitOne (L2.KOf KX) (.ref C_BadFraction) (.ref C_Late) = some false ∧ PySem.W.kitOne (L2.KOf KX) (.ref C_BadFraction) (.ref C_Full) = some false ∧ PySem.W.kitOne (L2.KOf KX) (.ref C_BadFraction) (.ref C_OtherKnown) = some false ∧ PySem.W.kitOne (L2.KOf KX) (.ref C_BadFraction) (.ref C_NoText) = some false ∧ PySem.W.kitOne (L2.KOf KX) (.ref C_BadFraction) (.ref C_NoRow) = some false ∧ PySem.W.kitOne (L2.KOf KX) (.ref C_BadFraction) (.ref C_BadTerm) = some false ∧ PySem.W.keepIn (L2.KOf KX) (.ref C_BadFraction) = true := by
      obtain ⟨c_BadFloor, c_BadTerm, c_BadCells, c_BadFraction, c_BadShares, c_TooLittle, c_TooFine, c_Late, c_Full, c_OtherKnown, c_NoText, c_NoRow, c_BadPaper, c_Falls, c_LandError, n_BadFloor, n_BadTerm, n_BadCells, n_BadFraction, n_BadShares, n_TooLittle, n_TooFine, n_Late, n_Full, n_OtherKnown, n_NoText, n_NoRow, n_BadPaper, n_Falls, n_LandError, a_BadFraction, k_BadFraction_LandError, t_BadFraction_ValueError, k_BadFraction_BadFloor, k_BadFraction_BadCells, k_BadFraction_BadFraction, k_BadFraction_BadShares, k_BadFraction_TooLittle, k_BadFraction_TooFine, k_BadFraction_BadPaper, k_BadFraction_Falls, k_BadFraction_Late, k_BadFraction_Full, k_BadFraction_OtherKnown, k_BadFraction_NoText, k_BadFraction_NoRow, k_BadFraction_BadTerm, p_BadFraction⟩ : ∃ c_BadFloor c_BadTerm c_BadCells c_BadFraction c_BadShares c_TooLittle c_TooFine c_Late c_Full c_OtherKnown c_NoText c_NoRow c_BadPaper c_Falls c_LandError, L2.ClsN mg "BadFloor" c_BadFloor ∧ L2.ClsN mg "BadTerm" c_BadTerm ∧ L2.ClsN mg "BadCells" c_BadCells ∧ L2.ClsN mg "BadFraction" c_BadFraction ∧ L2.ClsN mg "BadShares" c_BadShares ∧ L2.ClsN mg "TooLittle" c_TooLittle ∧ L2.ClsN mg "TooFine" c_TooFine ∧ L2.ClsN mg "Late" c_Late ∧ L2.ClsN mg "Full" c_Full ∧ L2.ClsN mg "OtherKnown" c_OtherKnown ∧ L2.ClsN mg "NoText" c_NoText ∧ L2.ClsN mg "NoRow" c_NoRow ∧ L2.ClsN mg "BadPaper" c_BadPaper ∧ L2.ClsN mg "Falls" c_Falls ∧ L2.ClsN mg "LandError" c_LandError ∧ L2.ExcA (L2.KOf KX) c_BadFraction ∧ PySem.W.kitOne (L2.KOf KX) (.ref c_BadFraction) (.ref c_LandError) = some true ∧ PySem.W.kitOne (L2.KOf KX) (.ref c_BadFraction) (.type "ValueError") = some true ∧ PySem.W.kitOne (L2.KOf KX) (.ref c_BadFraction) (.ref c_BadFloor) = some false ∧ PySem.W.kitOne (L2.KOf KX) (.ref c_BadFraction) (.ref c_BadCells) = some false ∧ PySem.W.kitOne (L2.KOf KX) (.ref c_BadFraction) (.ref c_BadFraction) = some true ∧ PySem.W.kitOne (L2.KOf KX) (.ref c_BadFraction) (.ref c_BadShares) = some false ∧ PySem.W.kitOne (L2.KOf KX) (.ref c_BadFraction) (.ref c_TooLittle) = some false ∧ PySem.W.kitOne (L2.KOf KX) (.ref c_BadFraction) (.ref c_TooFine) = some false ∧ PySem.W.kitOne (L2.KOf KX) (.ref c_BadFraction) (.ref c_BadPaper) = some false ∧ PySem.W.kitOne (L2.KOf KX) (.ref c_BadFraction) (.ref c_Falls) = some false ∧ PySem.W.kitOne (L2.KOf KX) (.ref c_BadFraction) (.ref c_Late) = some false ∧ PySem.W.kitOne (L2.KOf KX) (.ref c_BadFraction) (.ref c_Full) = some false ∧ PySem.W.kitOne (L2.KOf KX) (.ref c_BadFraction) (.ref c_OtherKnown) = some false ∧ PySem.W.kitOne (L2.KOf KX) (.ref c_BadFraction) (.ref c_NoText) = some false ∧ PySem.W.kitOne (L2.KOf KX) (.ref c_BadFraction) (.ref c_NoRow) = some false ∧ PySem.W.kitOne (L2.KOf KX) (.ref c_BadFraction) (.ref c_BadTerm) = some false ∧ PySem.W.keepIn (L2.KOf KX) (.ref c_BadFraction) = true := by
        dsimp only [L2.KOf]
        refine' ⟨_, _, _, _, _, _, _, _, _, _, _, _, _, _, _, L2.clsN_mk KX G ?n_BadFloora, L2.clsN_mk KX G ?n_BadTerma, L2.clsN_mk KX G ?n_BadCellsa, L2.clsN_mk KX G ?n_BadFractiona, L2.clsN_mk KX G ?n_BadSharesa, L2.clsN_mk KX G ?n_TooLittlea, L2.clsN_mk KX G ?n_TooFinea, L2.clsN_mk KX G ?n_Latea, L2.clsN_mk KX G ?n_Fulla, L2.clsN_mk KX G ?n_OtherKnowna, L2.clsN_mk KX G ?n_NoTexta, L2.clsN_mk KX G ?n_NoRowa, L2.clsN_mk KX G ?n_BadPapera, L2.clsN_mk KX G ?n_Fallsa, L2.clsN_mk KX G ?n_LandErrora, ⟨?a_BadFractiona, ?a_BadFractionb, ?a_BadFractionc, ?a_BadFractiond, ?a_BadFractione⟩, ?k_BadFraction_LandError, ?t_BadFraction_ValueError, ?k_BadFraction_BadFloor, ?k_BadFraction_BadCells, ?k_BadFraction_BadFraction, ?k_BadFraction_BadShares, ?k_BadFraction_TooLittle, ?k_BadFraction_TooFine, ?k_BadFraction_BadPaper, ?k_BadFraction_Falls, ?k_BadFraction_Late, ?k_BadFraction_Full, ?k_BadFraction_OtherKnown, ?k_BadFraction_NoText, ?k_BadFraction_NoRow, ?k_BadFraction_BadTerm, ?p_BadFraction⟩
        (case n_BadFloora => k_is)
        (case n_BadTerma => k_is)
        (case n_BadCellsa => k_is)
        (case n_BadFractiona => k_is)
        (case n_BadSharesa => k_is)
        (case n_TooLittlea => k_is)
        (case n_TooFinea => k_is)
        (case n_Latea => k_is)
        (case n_Fulla => k_is)
        (case n_OtherKnowna => k_is)
        (case n_NoTexta => k_is)
        (case n_NoRowa => k_is)
        (case n_BadPapera => k_is)
        (case n_Fallsa => k_is)
        (case n_LandErrora => k_is)
        (case a_BadFractiona => k_is)
        (case a_BadFractionb => k_is)
        (case a_BadFractionc => k_is)
        (case a_BadFractiond => k_is)
        (case a_BadFractione => k_is)
        (case k_BadFraction_LandError => kit_is)
        (case t_BadFraction_ValueError => kit_is)
        (case k_BadFraction_BadFloor => kit_is)
        (case k_BadFraction_BadCells => kit_is)
        (case k_BadFraction_BadFraction => kit_is)
        (case k_BadFraction_BadShares => kit_is)
        (case k_BadFraction_TooLittle => kit_is)
        (case k_BadFraction_TooFine => kit_is)
        (case k_BadFraction_BadPaper => kit_is)
        (case k_BadFraction_Falls => kit_is)
        (case k_BadFraction_Late => kit_is)
        (case k_BadFraction_Full => kit_is)
        (case k_BadFraction_OtherKnown => kit_is)
        (case k_BadFraction_NoText => kit_is)
        (case k_BadFraction_NoRow => kit_is)
        (case k_BadFraction_BadTerm => kit_is)
        (case p_BadFraction => k_is)
      obtain rfl : c_BadFloor = C_BadFloor := L2.ClsN.uniq n_BadFloor z_BadFloor.n
      obtain rfl : c_BadTerm = C_BadTerm := L2.ClsN.uniq n_BadTerm z_BadTerm.n
      obtain rfl : c_BadCells = C_BadCells := L2.ClsN.uniq n_BadCells z_BadCells.n
      obtain rfl : c_BadFraction = C_BadFraction := L2.ClsN.uniq n_BadFraction z_BadFraction.n
      obtain rfl : c_BadShares = C_BadShares := L2.ClsN.uniq n_BadShares z_BadShares.n
      obtain rfl : c_TooLittle = C_TooLittle := L2.ClsN.uniq n_TooLittle z_TooLittle.n
      obtain rfl : c_TooFine = C_TooFine := L2.ClsN.uniq n_TooFine z_TooFine.n
      obtain rfl : c_Late = C_Late := L2.ClsN.uniq n_Late z_Late.n
      obtain rfl : c_Full = C_Full := L2.ClsN.uniq n_Full z_Full.n
      obtain rfl : c_OtherKnown = C_OtherKnown := L2.ClsN.uniq n_OtherKnown z_OtherKnown.n
      obtain rfl : c_NoText = C_NoText := L2.ClsN.uniq n_NoText z_NoText.n
      obtain rfl : c_NoRow = C_NoRow := L2.ClsN.uniq n_NoRow z_NoRow.n
      obtain rfl : c_BadPaper = C_BadPaper := L2.ClsN.uniq n_BadPaper z_BadPaper
      obtain rfl : c_Falls = C_Falls := L2.ClsN.uniq n_Falls z_Falls
      obtain rfl : c_LandError = C_LandError := L2.ClsN.uniq n_LandError z_LandError.n
      exact ⟨a_BadFraction, k_BadFraction_LandError, t_BadFraction_ValueError, k_BadFraction_BadFloor, k_BadFraction_BadCells, k_BadFraction_BadFraction, k_BadFraction_BadShares, k_BadFraction_TooLittle, k_BadFraction_TooFine, k_BadFraction_BadPaper, k_BadFraction_Falls, k_BadFraction_Late, k_BadFraction_Full, k_BadFraction_OtherKnown, k_BadFraction_NoText, k_BadFraction_NoRow, k_BadFraction_BadTerm, p_BadFraction⟩
    obtain ⟨a_BadShares, k_BadShares_LandError, t_BadShares_ValueError, k_BadShares_BadFloor, k_BadShares_BadCells, k_BadShares_BadFraction, k_BadShares_BadShares, k_BadShares_TooLittle, k_BadShares_TooFine, k_BadShares_BadPaper, k_BadShares_Falls, k_BadShares_Late, k_BadShares_Full, k_BadShares_OtherKnown, k_BadShares_NoText, k_BadShares_NoRow, k_BadShares_BadTerm, p_BadShares⟩ : L2.ExcA (L2.KOf KX) C_BadShares ∧ PySem.W.kitOne (L2.KOf KX) (.ref C_BadShares) (.ref C_LandError) = some true ∧ PySem.W.kitOne (L2.KOf KX) (.ref C_BadShares) (.type "ValueError") = some true ∧ PySem.W.kitOne (L2.KOf KX) (.ref C_BadShares) (.ref C_BadFloor) = some false ∧ PySem.W.kitOne (L2.KOf KX) (.ref C_BadShares) (.ref C_BadCells) = some false ∧ PySem.W.kitOne (L2.KOf KX) (.ref C_BadShares) (.ref C_BadFraction) = some false ∧ PySem.W.kitOne (L2.KOf KX) (.ref C_BadShares) (.ref C_BadShares) = some true ∧ PySem.W.kitOne (L2.KOf KX) (.ref C_BadShares) (.ref C_TooLittle) = some false ∧ PySem.W.kitOne (L2.KOf KX) (.ref C_BadShares) (.ref C_TooFine) = some false ∧ PySem.W.kitOne (L2.KOf KX) (.ref C_BadShares) (.ref C_BadPaper) = some false ∧ PySem.W.kitOne (L2.KOf KX) (.ref C_BadShares) (.ref C_Falls) = some false ∧ PySem.W.kitOne (L2.KOf KX) (.ref C_BadShares) (.ref C_Late) = some false ∧ PySem.W.kitOne (L2.KOf KX) (.ref C_BadShares) (.ref C_Full) = some false ∧ PySem.W.kitOne (L2.KOf KX) (.ref C_BadShares) (.ref C_OtherKnown) = some false ∧ PySem.W.kitOne (L2.KOf KX) (.ref C_BadShares) (.ref C_NoText) = some false ∧ PySem.W.kitOne (L2.KOf KX) (.ref C_BadShares) (.ref C_NoRow) = some false ∧ PySem.W.kitOne (L2.KOf KX) (.ref C_BadShares) (.ref C_BadTerm) = some false ∧ PySem.W.keepIn (L2.KOf KX) (.ref C_BadShares) = true := by
      obtain ⟨c_BadFloor, c_BadTerm, c_BadCells, c_BadFraction, c_BadShares, c_TooLittle, c_TooFine, c_Late, c_Full, c_OtherKnown, c_NoText, c_NoRow, c_BadPaper, c_Falls, c_LandError, n_BadFloor, n_BadTerm, n_BadCells, n_BadFraction, n_BadShares, n_TooLittle, n_TooFine, n_Late, n_Full, n_OtherKnown, n_NoText, n_NoRow, n_BadPaper, n_Falls, n_LandError, a_BadShares, k_BadShares_LandError, t_BadShares_ValueError, k_BadShares_BadFloor, k_BadShares_BadCells, k_BadShares_BadFraction, k_BadShares_BadShares, k_BadShares_TooLittle, k_BadShares_TooFine, k_BadShares_BadPaper, k_BadShares_Falls, k_BadShares_Late, k_BadShares_Full, k_BadShares_OtherKnown, k_BadShares_NoText, k_BadShares_NoRow, k_BadShares_BadTerm, p_BadShares⟩ : ∃ c_BadFloor c_BadTerm c_BadCells c_BadFraction c_BadShares c_TooLittle c_TooFine c_Late c_Full c_OtherKnown c_NoText c_NoRow c_BadPaper c_Falls c_LandError, L2.ClsN mg "BadFloor" c_BadFloor ∧ L2.ClsN mg "BadTerm" c_BadTerm ∧ L2.ClsN mg "BadCells" c_BadCells ∧ L2.ClsN mg "BadFraction" c_BadFraction ∧ L2.ClsN mg "BadShares" c_BadShares ∧ L2.ClsN mg "TooLittle" c_TooLittle ∧ L2.ClsN mg "TooFine" c_TooFine ∧ L2.ClsN mg "Late" c_Late ∧ L2.ClsN mg "Full" c_Full ∧ L2.ClsN mg "OtherKnown" c_OtherKnown ∧ L2.ClsN mg "NoText" c_NoText ∧ L2.ClsN mg "NoRow" c_NoRow ∧ L2.ClsN mg "BadPaper" c_BadPaper ∧ L2.ClsN mg "Falls" c_Falls ∧ L2.ClsN mg "LandError" c_LandError ∧ L2.ExcA (L2.KOf KX) c_BadShares ∧ PySem.W.kitOne (L2.KOf KX) (.ref c_BadShares) (.ref c_LandError) = some true ∧ PySem.W.kitOne (L2.KOf KX) (.ref c_BadShares) (.type "ValueError") = some true ∧ PySem.W.kitOne (L2.KOf KX) (.ref c_BadShares) (.ref c_BadFloor) = some false ∧ PySem.W.kitOne (L2.KOf KX) (.ref c_BadShares) (.ref c_BadCells) = some false ∧ PySem.W.kitOne (L2.KOf KX) (.ref c_BadShares) (.ref c_BadFraction) = some false ∧ PySem.W.kitOne (L2.KOf KX) (.ref c_BadShares) (.ref c_BadShares) = some true ∧ PySem.W.kitOne (L2.KOf KX) (.ref c_BadShares) (.ref c_TooLittle) = some false ∧ PySem.W.kitOne (L2.KOf KX) (.ref c_BadShares) (.ref c_TooFine) = some false ∧ PySem.W.kitOne (L2.KOf KX) (.ref c_BadShares) (.ref c_BadPaper) = some false ∧ PySem.W.kitOne (L2.KOf KX) (.ref c_BadShares) (.ref c_Falls) = some false ∧ PySem.W.kitOne (L2.KOf KX) (.ref c_BadShares) (.ref c_Late) = some false ∧ PySem.W.kitOne (L2.KOf KX) (.ref c_BadShares) (.ref c_Full) = some false ∧ PySem.W.kitOne (L2.KOf KX) (.ref c_BadShares) (.ref c_OtherKnown) = some false ∧ PySem.W.kitOne (L2.KOf KX) (.ref c_BadShares) (.ref c_NoText) = some false ∧ PySem.W.kitOne (L2.KOf KX) (.ref c_BadShares) (.ref c_NoRow) = some false ∧ PySem.W.kitOne (L2.KOf KX) (.ref c_BadShares) (.ref c_BadTerm) = some false ∧ PySem.W.keepIn (L2.KOf KX) (.ref c_BadShares) = true := by
        dsimp only [L2.KOf]
        refine' ⟨_, _, _, _, _, _, _, _, _, _, _, _, _, _, _, L2.clsN_mk KX G ?n_BadFloora, L2.clsN_mk KX G ?n_BadTerma, L2.clsN_mk KX G ?n_BadCellsa, L2.clsN_mk KX G ?n_BadFractiona, L2.clsN_mk KX G ?n_BadSharesa, L2.clsN_mk KX G ?n_TooLittlea, L2.clsN_mk KX G ?n_TooFinea, L2.clsN_mk KX G ?n_Latea, L2.clsN_mk KX G ?n_Fulla, L2.clsN_mk KX G ?n_OtherKnowna, L2.clsN_mk KX G ?n_NoTexta, L2.clsN_mk KX G ?n_NoRowa, L2.clsN_mk KX G ?n_BadPapera, L2.clsN_mk KX G ?n_Fallsa, L2.clsN_mk KX G ?n_LandErrora, ⟨?a_BadSharesa, ?a_BadSharesb, ?a_BadSharesc, ?a_BadSharesd, ?a_BadSharese⟩, ?k_BadShares_LandError, ?t_BadShares_ValueError, ?k_BadShares_BadFloor, ?k_BadShares_BadCells, ?k_BadShares_BadFraction, ?k_BadShares_BadShares, ?k_BadShares_TooLittle, ?k_BadShares_TooFine, ?k_BadShares_BadPaper, ?k_BadShares_Falls, ?k_BadShares_Late, ?k_BadShares_Full, ?k_BadShares_OtherKnown, ?k_BadShares_NoText, ?k_BadShares_NoRow, ?k_BadShares_BadTerm, ?p_BadShares⟩
        (case n_BadFloora => k_is)
        (case n_BadTerma => k_is)
        (case n_BadCellsa => k_is)
        (case n_BadFractiona => k_is)
        (case n_BadSharesa => k_is)
        (case n_TooLittlea => k_is)
        (case n_TooFinea => k_is)
        (case n_Latea => k_is)
        (case n_Fulla => k_is)
        (case n_OtherKnowna => k_is)
        (case n_NoTexta => k_is)
        (case n_NoRowa => k_is)
        (case n_BadPapera => k_is)
        (case n_Fallsa => k_is)
        (case n_LandErrora => k_is)
        (case a_BadSharesa => k_is)
        (case a_BadSharesb => k_is)
        (case a_BadSharesc => k_is)
        (case a_BadSharesd => k_is)
        (case a_BadSharese => k_is)
        (case k_BadShares_LandError => kit_is)
        (case t_BadShares_ValueError => kit_is)
        (case k_BadShares_BadFloor => kit_is)
        (case k_BadShares_BadCells => kit_is)
        (case k_BadShares_BadFraction => kit_is)
        (case k_BadShares_BadShares => kit_is)
        (case k_BadShares_TooLittle => kit_is)
        (case k_BadShares_TooFine => kit_is)
        (case k_BadShares_BadPaper => kit_is)
        (case k_BadShares_Falls => kit_is)
        (case k_BadShares_Late => kit_is)
        (case k_BadShares_Full => kit_is)
        (case k_BadShares_OtherKnown => kit_is)
        (case k_BadShares_NoText => kit_is)
        (case k_BadShares_NoRow => kit_is)
        (case k_BadShares_BadTerm => kit_is)
        (case p_BadShares => k_is)
      obtain rfl : c_BadFloor = C_BadFloor := L2.ClsN.uniq n_BadFloor z_BadFloor.n
      obtain rfl : c_BadTerm = C_BadTerm := L2.ClsN.uniq n_BadTerm z_BadTerm.n
      obtain rfl : c_BadCells = C_BadCells := L2.ClsN.uniq n_BadCells z_BadCells.n
      obtain rfl : c_BadFraction = C_BadFraction := L2.ClsN.uniq n_BadFraction z_BadFraction.n
      obtain rfl : c_BadShares = C_BadShares := L2.ClsN.uniq n_BadShares z_BadShares.n
      obtain rfl : c_TooLittle = C_TooLittle := L2.ClsN.uniq n_TooLittle z_TooLittle.n
      obtain rfl : c_TooFine = C_TooFine := L2.ClsN.uniq n_TooFine z_TooFine.n
      obtain rfl : c_Late = C_Late := L2.ClsN.uniq n_Late z_Late.n
      obtain rfl : c_Full = C_Full := L2.ClsN.uniq n_Full z_Full.n
      obtain rfl : c_OtherKnown = C_OtherKnown := L2.ClsN.uniq n_OtherKnown z_OtherKnown.n
      obtain rfl : c_NoText = C_NoText := L2.ClsN.uniq n_NoText z_NoText.n
      obtain rfl : c_NoRow = C_NoRow := L2.ClsN.uniq n_NoRow z_NoRow.n
      obtain rfl : c_BadPaper = C_BadPaper := L2.ClsN.uniq n_BadPaper z_BadPaper
      obtain rfl : c_Falls = C_Falls := L2.ClsN.uniq n_Falls z_Falls
      obtain rfl : c_LandError = C_LandError := L2.ClsN.uniq n_LandError z_LandError.n
      exact ⟨a_BadShares, k_BadShares_LandError, t_BadShares_ValueError, k_BadShares_BadFloor, k_BadShares_BadCells, k_BadShares_BadFraction, k_BadShares_BadShares, k_BadShares_TooLittle, k_BadShares_TooFine, k_BadShares_BadPaper, k_BadShares_Falls, k_BadShares_Late, k_BadShares_Full, k_BadShares_OtherKnown, k_BadShares_NoText, k_BadShares_NoRow, k_BadShares_BadTerm, p_BadShares⟩
    obtain ⟨a_TooLittle, k_TooLittle_LandError, t_TooLittle_ValueError, k_TooLittle_BadFloor, k_TooLittle_BadCells, k_TooLittle_BadFraction, k_TooLittle_BadShares, k_TooLittle_TooLittle, k_TooLittle_TooFine, k_TooLittle_BadPaper, k_TooLittle_Falls, k_TooLittle_Late, k_TooLittle_Full, k_TooLittle_OtherKnown, k_TooLittle_NoText, k_TooLittle_NoRow, k_TooLittle_BadTerm, p_TooLittle⟩ : L2.ExcA (L2.KOf KX) C_TooLittle ∧ PySem.W.kitOne (L2.KOf KX) (.ref C_TooLittle) (.ref C_LandError) = some true ∧ PySem.W.kitOne (L2.KOf KX) (.ref C_TooLittle) (.type "ValueError") = some true ∧ PySem.W.kitOne (L2.KOf KX) (.ref C_TooLittle) (.ref C_BadFloor) = some false ∧ PySem.W.kitOne (L2.KOf KX) (.ref C_TooLittle) (.ref C_BadCells) = some false ∧ PySem.W.kitOne (L2.KOf KX) (.ref C_TooLittle) (.ref C_BadFraction) = some false ∧ PySem.W.kitOne (L2.KOf KX) (.ref C_TooLittle) (.ref C_BadShares) = some false ∧ PySem.W.kitOne (L2.KOf KX) (.ref C_TooLittle) (.ref C_TooLittle) = some true ∧ PySem.W.kitOne (L2.KOf KX) (.ref C_TooLittle) (.ref C_TooFine) = some false ∧ PySem.W.kitOne (L2.KOf KX) (.ref C_TooLittle) (.ref C_BadPaper) = some false ∧ PySem.W.kitOne (L2.KOf KX) (.ref C_TooLittle) (.ref C_Falls) = some false ∧ PySem.W.kitOne (L2.KOf KX) (.ref C_TooLittle) (.ref C_Late) = some false ∧ PySem.W.kitOne (L2.KOf KX) (.ref C_TooLittle) (.ref C_Full) = some false ∧ PySem.W.kitOne (L2.KOf KX) (.ref C_TooLittle) (.ref C_OtherKnown) = some false ∧ PySem.W.kitOne (L2.KOf KX) (.ref C_TooLittle) (.ref C_NoText) = some false ∧ PySem.W.kitOne (L2.KOf KX) (.ref C_TooLittle) (.ref C_NoRow) = some false ∧ PySem.W.kitOne (L2.KOf KX) (.ref C_TooLittle) (.ref C_BadTerm) = some false ∧ PySem.W.keepIn (L2.KOf KX) (.ref C_TooLittle) = true := by
      obtain ⟨c_BadFloor, c_BadTerm, c_BadCells, c_BadFraction, c_BadShares, c_TooLittle, c_TooFine, c_Late, c_Full, c_OtherKnown, c_NoText, c_NoRow, c_BadPaper, c_Falls, c_LandError, n_BadFloor, n_BadTerm, n_BadCells, n_BadFraction, n_BadShares, n_TooLittle, n_TooFine, n_Late, n_Full, n_OtherKnown, n_NoText, n_NoRow, n_BadPaper, n_Falls, n_LandError, a_TooLittle, k_TooLittle_LandError, t_TooLittle_ValueError, k_TooLittle_BadFloor, k_TooLittle_BadCells, k_TooLittle_BadFraction, k_TooLittle_BadShares, k_TooLittle_TooLittle, k_TooLittle_TooFine, k_TooLittle_BadPaper, k_TooLittle_Falls, k_TooLittle_Late, k_TooLittle_Full, k_TooLittle_OtherKnown, k_TooLittle_NoText, k_TooLittle_NoRow, k_TooLittle_BadTerm, p_TooLittle⟩ : ∃ c_BadFloor c_BadTerm c_BadCells c_BadFraction c_BadShares c_TooLittle c_TooFine c_Late c_Full c_OtherKnown c_NoText c_NoRow c_BadPaper c_Falls c_LandError, L2.ClsN mg "BadFloor" c_BadFloor ∧ L2.ClsN mg "BadTerm" c_BadTerm ∧ L2.ClsN mg "BadCells" c_BadCells ∧ L2.ClsN mg "BadFraction" c_BadFraction ∧ L2.ClsN mg "BadShares" c_BadShares ∧ L2.ClsN mg "TooLittle" c_TooLittle ∧ L2.ClsN mg "TooFine" c_TooFine ∧ L2.ClsN mg "Late" c_Late ∧ L2.ClsN mg "Full" c_Full ∧ L2.ClsN mg "OtherKnown" c_OtherKnown ∧ L2.ClsN mg "NoText" c_NoText ∧ L2.ClsN mg "NoRow" c_NoRow ∧ L2.ClsN mg "BadPaper" c_BadPaper ∧ L2.ClsN mg "Falls" c_Falls ∧ L2.ClsN mg "LandError" c_LandError ∧ L2.ExcA (L2.KOf KX) c_TooLittle ∧ PySem.W.kitOne (L2.KOf KX) (.ref c_TooLittle) (.ref c_LandError) = some true ∧ PySem.W.kitOne (L2.KOf KX) (.ref c_TooLittle) (.type "ValueError") = some true ∧ PySem.W.kitOne (L2.KOf KX) (.ref c_TooLittle) (.ref c_BadFloor) = some false ∧ PySem.W.kitOne (L2.KOf KX) (.ref c_TooLittle) (.ref c_BadCells) = some false ∧ PySem.W.kitOne (L2.KOf KX) (.ref c_TooLittle) (.ref c_BadFraction) = some false ∧ PySem.W.kitOne (L2.KOf KX) (.ref c_TooLittle) (.ref c_BadShares) = some false ∧ PySem.W.kitOne (L2.KOf KX) (.ref c_TooLittle) (.ref c_TooLittle) = some true ∧ PySem.W.kitOne (L2.KOf KX) (.ref c_TooLittle) (.ref c_TooFine) = some false ∧ PySem.W.kitOne (L2.KOf KX) (.ref c_TooLittle) (.ref c_BadPaper) = some false ∧ PySem.W.kitOne (L2.KOf KX) (.ref c_TooLittle) (.ref c_Falls) = some false ∧ PySem.W.kitOne (L2.KOf KX) (.ref c_TooLittle) (.ref c_Late) = some false ∧ PySem.W.kitOne (L2.KOf KX) (.ref c_TooLittle) (.ref c_Full) = some false ∧ PySem.W.kitOne (L2.KOf KX) (.ref c_TooLittle) (.ref c_OtherKnown) = some false ∧ PySem.W.kitOne (L2.KOf KX) (.ref c_TooLittle) (.ref c_NoText) = some false ∧ PySem.W.kitOne (L2.KOf KX) (.ref c_TooLittle) (.ref c_NoRow) = some false ∧ PySem.W.kitOne (L2.KOf KX) (.ref c_TooLittle) (.ref c_BadTerm) = some false ∧ PySem.W.keepIn (L2.KOf KX) (.ref c_TooLittle) = true := by
        dsimp only [L2.KOf]
        refine' ⟨_, _, _, _, _, _, _, _, _, _, _, _, _, _, _, L2.clsN_mk KX G ?n_BadFloora, L2.clsN_mk KX G ?n_BadTerma, L2.clsN_mk KX G ?n_BadCellsa, L2.clsN_mk KX G ?n_BadFractiona, L2.clsN_mk KX G ?n_BadSharesa, L2.clsN_mk KX G ?n_TooLittlea, L2.clsN_mk KX G ?n_TooFinea, L2.clsN_mk KX G ?n_Latea, L2.clsN_mk KX G ?n_Fulla, L2.clsN_mk KX G ?n_OtherKnowna, L2.clsN_mk KX G ?n_NoTexta, L2.clsN_mk KX G ?n_NoRowa, L2.clsN_mk KX G ?n_BadPapera, L2.clsN_mk KX G ?n_Fallsa, L2.clsN_mk KX G ?n_LandErrora, ⟨?a_TooLittlea, ?a_TooLittleb, ?a_TooLittlec, ?a_TooLittled, ?a_TooLittlee⟩, ?k_TooLittle_LandError, ?t_TooLittle_ValueError, ?k_TooLittle_BadFloor, ?k_TooLittle_BadCells, ?k_TooLittle_BadFraction, ?k_TooLittle_BadShares, ?k_TooLittle_TooLittle, ?k_TooLittle_TooFine, ?k_TooLittle_BadPaper, ?k_TooLittle_Falls, ?k_TooLittle_Late, ?k_TooLittle_Full, ?k_TooLittle_OtherKnown, ?k_TooLittle_NoText, ?k_TooLittle_NoRow, ?k_TooLittle_BadTerm, ?p_TooLittle⟩
        (case n_BadFloora => k_is)
        (case n_BadTerma => k_is)
        (case n_BadCellsa => k_is)
        (case n_BadFractiona => k_is)
        (case n_BadSharesa => k_is)
        (case n_TooLittlea => k_is)
        (case n_TooFinea => k_is)
        (case n_Latea => k_is)
        (case n_Fulla => k_is)
        (case n_OtherKnowna => k_is)
        (case n_NoTexta => k_is)
        (case n_NoRowa => k_is)
        (case n_BadPapera => k_is)
        (case n_Fallsa => k_is)
        (case n_LandErrora => k_is)
        (case a_TooLittlea => k_is)
        (case a_TooLittleb => k_is)
        (case a_TooLittlec => k_is)
        (case a_TooLittled => k_is)
        (case a_TooLittlee => k_is)
        (case k_TooLittle_LandError => kit_is)
        (case t_TooLittle_ValueError => kit_is)
        (case k_TooLittle_BadFloor => kit_is)
        (case k_TooLittle_BadCells => kit_is)
        (case k_TooLittle_BadFraction => kit_is)
        (case k_TooLittle_BadShares => kit_is)
        (case k_TooLittle_TooLittle => kit_is)
        (case k_TooLittle_TooFine => kit_is)
        (case k_TooLittle_BadPaper => kit_is)
        (case k_TooLittle_Falls => kit_is)
        (case k_TooLittle_Late => kit_is)
        (case k_TooLittle_Full => kit_is)
        (case k_TooLittle_OtherKnown => kit_is)
        (case k_TooLittle_NoText => kit_is)
        (case k_TooLittle_NoRow => kit_is)
        (case k_TooLittle_BadTerm => kit_is)
        (case p_TooLittle => k_is)
      obtain rfl : c_BadFloor = C_BadFloor := L2.ClsN.uniq n_BadFloor z_BadFloor.n
      obtain rfl : c_BadTerm = C_BadTerm := L2.ClsN.uniq n_BadTerm z_BadTerm.n
      obtain rfl : c_BadCells = C_BadCells := L2.ClsN.uniq n_BadCells z_BadCells.n
      obtain rfl : c_BadFraction = C_BadFraction := L2.ClsN.uniq n_BadFraction z_BadFraction.n
      obtain rfl : c_BadShares = C_BadShares := L2.ClsN.uniq n_BadShares z_BadShares.n
      obtain rfl : c_TooLittle = C_TooLittle := L2.ClsN.uniq n_TooLittle z_TooLittle.n
      obtain rfl : c_TooFine = C_TooFine := L2.ClsN.uniq n_TooFine z_TooFine.n
      obtain rfl : c_Late = C_Late := L2.ClsN.uniq n_Late z_Late.n
      obtain rfl : c_Full = C_Full := L2.ClsN.uniq n_Full z_Full.n
      obtain rfl : c_OtherKnown = C_OtherKnown := L2.ClsN.uniq n_OtherKnown z_OtherKnown.n
      obtain rfl : c_NoText = C_NoText := L2.ClsN.uniq n_NoText z_NoText.n
      obtain rfl : c_NoRow = C_NoRow := L2.ClsN.uniq n_NoRow z_NoRow.n
      obtain rfl : c_BadPaper = C_BadPaper := L2.ClsN.uniq n_BadPaper z_BadPaper
      obtain rfl : c_Falls = C_Falls := L2.ClsN.uniq n_Falls z_Falls
      obtain rfl : c_LandError = C_LandError := L2.ClsN.uniq n_LandError z_LandError.n
      exact ⟨a_TooLittle, k_TooLittle_LandError, t_TooLittle_ValueError, k_TooLittle_BadFloor, k_TooLittle_BadCells, k_TooLittle_BadFraction, k_TooLittle_BadShares, k_TooLittle_TooLittle, k_TooLittle_TooFine, k_TooLittle_BadPaper, k_TooLittle_Falls, k_TooLittle_Late, k_TooLittle_Full, k_TooLittle_OtherKnown, k_TooLittle_NoText, k_TooLittle_NoRow, k_TooLittle_BadTerm, p_TooLittle⟩
    obtain ⟨a_TooFine, k_TooFine_LandError, t_TooFine_ValueError, k_TooFine_BadFloor, k_TooFine_BadCells, k_TooFine_BadFraction, k_TooFine_BadShares, k_TooFine_TooLittle, k_TooFine_TooFine, k_TooFine_BadPaper, k_TooFine_Falls, k_TooFine_Late, k_TooFine_Full, k_TooFine_OtherKnown, k_TooFine_NoText, k_TooFine_NoRow, k_TooFine_BadTerm, p_TooFine⟩ : L2.ExcA (L2.KOf KX) C_TooFine ∧ PySem.W.kitOne (L2.KOf KX) (.ref C_TooFine) (.ref C_LandError) = some true ∧ PySem.W.kitOne (L2.KOf KX) (.ref C_TooFine) (.type "ValueError") = some true ∧ PySem.W.kitOne (L2.KOf KX) (.ref C_TooFine) (.ref C_BadFloor) = some false ∧ PySem.W.kitOne (L2.KOf KX) (.ref C_TooFine) (.ref C_BadCells) = some false ∧ PySem.W.kitOne (L2.KOf KX) (.ref C_TooFine) (.ref C_BadFraction) = some false ∧ PySem.W.kitOne (L2.KOf KX) (.ref C_TooFine) (.ref C_BadShares) = some false ∧ PySem.W.kitOne (L2.KOf KX) (.ref C_TooFine) (.ref C_TooLittle) = some false ∧ PySem.W.kitOne (L2.KOf KX) (.ref C_TooFine) (.ref C_TooFine) = some true ∧ PySem.W.kitOne (L2.KOf KX) (.ref C_TooFine) (.ref C_BadPaper) = some false ∧ PySem.W.kitOne (L2.KOf KX) (.ref C_TooFine) (.ref C_Falls) = some false ∧ PySem.W.kitOne (L2.KOf KX) (.ref C_TooFine) (.ref C_Late) = some false ∧ PySem.W.kitOne (L2.KOf KX) (.ref C_TooFine) (.ref C_Full) = some false ∧ PySem.W.kitOne (L2.KOf KX) (.ref C_TooFine) (.ref C_OtherKnown) = some false ∧ PySem.W.kitOne (L2.KOf KX) (.ref C_TooFine) (.ref C_NoText) = some false ∧ PySem.W.kitOne (L2.KOf KX) (.ref C_TooFine) (.ref C_NoRow) = some false ∧ PySem.W.kitOne (L2.KOf KX) (.ref C_TooFine) (.ref C_BadTerm) = some false ∧ PySem.W.keepIn (L2.KOf KX) (.ref C_TooFine) = true := by
      obtain ⟨c_BadFloor, c_BadTerm, c_BadCells, c_BadFraction, c_BadShares, c_TooLittle, c_TooFine, c_Late, c_Full, c_OtherKnown, c_NoText, c_NoRow, c_BadPaper, c_Falls, c_LandError, n_BadFloor, n_BadTerm, n_BadCells, n_BadFraction, n_BadShares, n_TooLittle, n_TooFine, n_Late, n_Full, n_OtherKnown, n_NoText, n_NoRow, n_BadPaper, n_Falls, n_LandError, a_TooFine, k_TooFine_LandError, t_TooFine_ValueError, k_TooFine_BadFloor, k_TooFine_BadCells, k_TooFine_BadFraction, k_TooFine_BadShares, k_TooFine_TooLittle, k_TooFine_TooFine, k_TooFine_BadPaper, k_TooFine_Falls, k_TooFine_Late, k_TooFine_Full, k_TooFine_OtherKnown, k_TooFine_NoText, k_TooFine_NoRow, k_TooFine_BadTerm, p_TooFine⟩ : ∃ c_BadFloor c_BadTerm c_BadCells c_BadFraction c_BadShares c_TooLittle c_TooFine c_Late c_Full c_OtherKnown c_NoText c_NoRow c_BadPaper c_Falls c_LandError, L2.ClsN mg "BadFloor" c_BadFloor ∧ L2.ClsN mg "BadTerm" c_BadTerm ∧ L2.ClsN mg "BadCells" c_BadCells ∧ L2.ClsN mg "BadFraction" c_BadFraction ∧ L2.ClsN mg "BadShares" c_BadShares ∧ L2.ClsN mg "TooLittle" c_TooLittle ∧ L2.ClsN mg "TooFine" c_TooFine ∧ L2.ClsN mg "Late" c_Late ∧ L2.ClsN mg "Full" c_Full ∧ L2.ClsN mg "OtherKnown" c_OtherKnown ∧ L2.ClsN mg "NoText" c_NoText ∧ L2.ClsN mg "NoRow" c_NoRow ∧ L2.ClsN mg "BadPaper" c_BadPaper ∧ L2.ClsN mg "Falls" c_Falls ∧ L2.ClsN mg "LandError" c_LandError ∧ L2.ExcA (L2.KOf KX) c_TooFine ∧ PySem.W.kitOne (L2.KOf KX) (.ref c_TooFine) (.ref c_LandError) = some true ∧ PySem.W.kitOne (L2.KOf KX) (.ref c_TooFine) (.type "ValueError") = some true ∧ PySem.W.kitOne (L2.KOf KX) (.ref c_TooFine) (.ref c_BadFloor) = some false ∧ PySem.W.kitOne (L2.KOf KX) (.ref c_TooFine) (.ref c_BadCells) = some false ∧ PySem.W.kitOne (L2.KOf KX) (.ref c_TooFine) (.ref c_BadFraction) = some false ∧ PySem.W.kitOne (L2.KOf KX) (.ref c_TooFine) (.ref c_BadShares) = some false ∧ PySem.W.kitOne (L2.KOf KX) (.ref c_TooFine) (.ref c_TooLittle) = some false ∧ PySem.W.kitOne (L2.KOf KX) (.ref c_TooFine) (.ref c_TooFine) = some true ∧ PySem.W.kitOne (L2.KOf KX) (.ref c_TooFine) (.ref c_BadPaper) = some false ∧ PySem.W.kitOne (L2.KOf KX) (.ref c_TooFine) (.ref c_Falls) = some false ∧ PySem.W.kitOne (L2.KOf KX) (.ref c_TooFine) (.ref c_Late) = some false ∧ PySem.W.kitOne (L2.KOf KX) (.ref c_TooFine) (.ref c_Full) = some false ∧ PySem.W.kitOne (L2.KOf KX) (.ref c_TooFine) (.ref c_OtherKnown) = some false ∧ PySem.W.kitOne (L2.KOf KX) (.ref c_TooFine) (.ref c_NoText) = some false ∧ PySem.W.kitOne (L2.KOf KX) (.ref c_TooFine) (.ref c_NoRow) = some false ∧ PySem.W.kitOne (L2.KOf KX) (.ref c_TooFine) (.ref c_BadTerm) = some false ∧ PySem.W.keepIn (L2.KOf KX) (.ref c_TooFine) = true := by
        dsimp only [L2.KOf]
        refine' ⟨_, _, _, _, _, _, _, _, _, _, _, _, _, _, _, L2.clsN_mk KX G ?n_BadFloora, L2.clsN_mk KX G ?n_BadTerma, L2.clsN_mk KX G ?n_BadCellsa, L2.clsN_mk KX G ?n_BadFractiona, L2.clsN_mk KX G ?n_BadSharesa, L2.clsN_mk KX G ?n_TooLittlea, L2.clsN_mk KX G ?n_TooFinea, L2.clsN_mk KX G ?n_Latea, L2.clsN_mk KX G ?n_Fulla, L2.clsN_mk KX G ?n_OtherKnowna, L2.clsN_mk KX G ?n_NoTexta, L2.clsN_mk KX G ?n_NoRowa, L2.clsN_mk KX G ?n_BadPapera, L2.clsN_mk KX G ?n_Fallsa, L2.clsN_mk KX G ?n_LandErrora, ⟨?a_TooFinea, ?a_TooFineb, ?a_TooFinec, ?a_TooFined, ?a_TooFinee⟩, ?k_TooFine_LandError, ?t_TooFine_ValueError, ?k_TooFine_BadFloor, ?k_TooFine_BadCells, ?k_TooFine_BadFraction, ?k_TooFine_BadShares, ?k_TooFine_TooLittle, ?k_TooFine_TooFine, ?k_TooFine_BadPaper, ?k_TooFine_Falls, ?k_TooFine_Late, ?k_TooFine_Full, ?k_TooFine_OtherKnown, ?k_TooFine_NoText, ?k_TooFine_NoRow, ?k_TooFine_BadTerm, ?p_TooFine⟩
        (case n_BadFloora => k_is)
        (case n_BadTerma => k_is)
        (case n_BadCellsa => k_is)
        (case n_BadFractiona => k_is)
        (case n_BadSharesa => k_is)
        (case n_TooLittlea => k_is)
        (case n_TooFinea => k_is)
        (case n_Latea => k_is)
        (case n_Fulla => k_is)
        (case n_OtherKnowna => k_is)
        (case n_NoTexta => k_is)
        (case n_NoRowa => k_is)
        (case n_BadPapera => k_is)
        (case n_Fallsa => k_is)
        (case n_LandErrora => k_is)
        (case a_TooFinea => k_is)
        (case a_TooFineb => k_is)
        (case a_TooFinec => k_is)
        (case a_TooFined => k_is)
        (case a_TooFinee => k_is)
        (case k_TooFine_LandError => kit_is)
        (case t_TooFine_ValueError => kit_is)
        (case k_TooFine_BadFloor => kit_is)
        (case k_TooFine_BadCells => kit_is)
        (case k_TooFine_BadFraction => kit_is)
        (case k_TooFine_BadShares => kit_is)
        (case k_TooFine_TooLittle => kit_is)
        (case k_TooFine_TooFine => kit_is)
        (case k_TooFine_BadPaper => kit_is)
        (case k_TooFine_Falls => kit_is)
        (case k_TooFine_Late => kit_is)
        (case k_TooFine_Full => kit_is)
        (case k_TooFine_OtherKnown => kit_is)
        (case k_TooFine_NoText => kit_is)
        (case k_TooFine_NoRow => kit_is)
        (case k_TooFine_BadTerm => kit_is)
        (case p_TooFine => k_is)
      obtain rfl : c_BadFloor = C_BadFloor := L2.ClsN.uniq n_BadFloor z_BadFloor.n
      obtain rfl : c_BadTerm = C_BadTerm := L2.ClsN.uniq n_BadTerm z_BadTerm.n
      obtain rfl : c_BadCells = C_BadCells := L2.ClsN.uniq n_BadCells z_BadCells.n
      obtain rfl : c_BadFraction = C_BadFraction := L2.ClsN.uniq n_BadFraction z_BadFraction.n
      obtain rfl : c_BadShares = C_BadShares := L2.ClsN.uniq n_BadShares z_BadShares.n
      obtain rfl : c_TooLittle = C_TooLittle := L2.ClsN.uniq n_TooLittle z_TooLittle.n
      obtain rfl : c_TooFine = C_TooFine := L2.ClsN.uniq n_TooFine z_TooFine.n
      obtain rfl : c_Late = C_Late := L2.ClsN.uniq n_Late z_Late.n
      obtain rfl : c_Full = C_Full := L2.ClsN.uniq n_Full z_Full.n
      obtain rfl : c_OtherKnown = C_OtherKnown := L2.ClsN.uniq n_OtherKnown z_OtherKnown.n
      obtain rfl : c_NoText = C_NoText := L2.ClsN.uniq n_NoText z_NoText.n
      obtain rfl : c_NoRow = C_NoRow := L2.ClsN.uniq n_NoRow z_NoRow.n
      obtain rfl : c_BadPaper = C_BadPaper := L2.ClsN.uniq n_BadPaper z_BadPaper
      obtain rfl : c_Falls = C_Falls := L2.ClsN.uniq n_Falls z_Falls
      obtain rfl : c_LandError = C_LandError := L2.ClsN.uniq n_LandError z_LandError.n
      exact ⟨a_TooFine, k_TooFine_LandError, t_TooFine_ValueError, k_TooFine_BadFloor, k_TooFine_BadCells, k_TooFine_BadFraction, k_TooFine_BadShares, k_TooFine_TooLittle, k_TooFine_TooFine, k_TooFine_BadPaper, k_TooFine_Falls, k_TooFine_Late, k_TooFine_Full, k_TooFine_OtherKnown, k_TooFine_NoText, k_TooFine_NoRow, k_TooFine_BadTerm, p_TooFine⟩
    obtain ⟨a_Late, k_Late_LandError, t_Late_ValueError, k_Late_BadFloor, k_Late_BadCells, k_Late_BadFraction, k_Late_BadShares, k_Late_TooLittle, k_Late_TooFine, k_Late_BadPaper, k_Late_Falls, k_Late_Late, k_Late_Full, k_Late_OtherKnown, k_Late_NoText, k_Late_NoRow, k_Late_BadTerm, p_Late⟩ : L2.ExcA (L2.KOf KX) C_Late ∧ PySem.W.kitOne (L2.KOf KX) (.ref C_Late) (.ref C_LandError) = some true ∧ PySem.W.kitOne (L2.KOf KX) (.ref C_Late) (.type "ValueError") = some true ∧ PySem.W.kitOne (L2.KOf KX) (.ref C_Late) (.ref C_BadFloor) = some false ∧ PySem.W.kitOne (L2.KOf KX) (.ref C_Late) (.ref C_BadCells) = some false ∧ PySem.W.kitOne (L2.KOf KX) (.ref C_Late) (.ref C_BadFraction) = some false ∧ PySem.W.kitOne (L2.KOf KX) (.ref C_Late) (.ref C_BadShares) = some false ∧ PySem.W.kitOne (L2.KOf KX) (.ref C_Late) (.ref C_TooLittle) = some false ∧ PySem.W.kitOne (L2.KOf KX) (.ref C_Late) (.ref C_TooFine) = some false ∧ PySem.W.kitOne (L2.KOf KX) (.ref C_Late) (.ref C_BadPaper) = some false ∧ PySem.W.kitOne (L2.KOf KX) (.ref C_Late) (.ref C_Falls) = some false ∧ PySem.W.kitOne (L2.KOf KX) (.ref C_Late) (.ref C_Late) = some true ∧ PySem.W.kitOne (L2.KOf KX) (.ref C_Late) (.ref C_Full) = some false ∧ PySem.W.kitOne (L2.KOf KX) (.ref C_Late) (.ref C_OtherKnown) = some false ∧ PySem.W.kitOne (L2.KOf KX) (.ref C_Late) (.ref C_NoText) = some false ∧ PySem.W.kitOne (L2.KOf KX) (.ref C_Late) (.ref C_NoRow) = some false ∧ PySem.W.kitOne (L2.KOf KX) (.ref C_Late) (.ref C_BadTerm) = some false ∧ PySem.W.keepIn (L2.KOf KX) (.ref C_Late) = true := by
      obtain ⟨c_BadFloor, c_BadTerm, c_BadCells, c_BadFraction, c_BadShares, c_TooLittle, c_TooFine, c_Late, c_Full, c_OtherKnown, c_NoText, c_NoRow, c_BadPaper, c_Falls, c_LandError, n_BadFloor, n_BadTerm, n_BadCells, n_BadFraction, n_BadShares, n_TooLittle, n_TooFine, n_Late, n_Full, n_OtherKnown, n_NoText, n_NoRow, n_BadPaper, n_Falls, n_LandError, a_Late, k_Late_LandError, t_Late_ValueError, k_Late_BadFloor, k_Late_BadCells, k_Late_BadFraction, k_Late_BadShares, k_Late_TooLittle, k_Late_TooFine, k_Late_BadPaper, k_Late_Falls, k_Late_Late, k_Late_Full, k_Late_OtherKnown, k_Late_NoText, k_Late_NoRow, k_Late_BadTerm, p_Late⟩ : ∃ c_BadFloor c_BadTerm c_BadCells c_BadFraction c_BadShares c_TooLittle c_TooFine c_Late c_Full c_OtherKnown c_NoText c_NoRow c_BadPaper c_Falls c_LandError, L2.ClsN mg "BadFloor" c_BadFloor ∧ L2.ClsN mg "BadTerm" c_BadTerm ∧ L2.ClsN mg "BadCells" c_BadCells ∧ L2.ClsN mg "BadFraction" c_BadFraction ∧ L2.ClsN mg "BadShares" c_BadShares ∧ L2.ClsN mg "TooLittle" c_TooLittle ∧ L2.ClsN mg "TooFine" c_TooFine ∧ L2.ClsN mg "Late" c_Late ∧ L2.ClsN mg "Full" c_Full ∧ L2.ClsN mg "OtherKnown" c_OtherKnown ∧ L2.ClsN mg "NoText" c_NoText ∧ L2.ClsN mg "NoRow" c_NoRow ∧ L2.ClsN mg "BadPaper" c_BadPaper ∧ L2.ClsN mg "Falls" c_Falls ∧ L2.ClsN mg "LandError" c_LandError ∧ L2.ExcA (L2.KOf KX) c_Late ∧ PySem.W.kitOne (L2.KOf KX) (.ref c_Late) (.ref c_LandError) = some true ∧ PySem.W.kitOne (L2.KOf KX) (.ref c_Late) (.type "ValueError") = some true ∧ PySem.W.kitOne (L2.KOf KX) (.ref c_Late) (.ref c_BadFloor) = some false ∧ PySem.W.kitOne (L2.KOf KX) (.ref c_Late) (.ref c_BadCells) = some false ∧ PySem.W.kitOne (L2.KOf KX) (.ref c_Late) (.ref c_BadFraction) = some false ∧ PySem.W.kitOne (L2.KOf KX) (.ref c_Late) (.ref c_BadShares) = some false ∧ PySem.W.kitOne (L2.KOf KX) (.ref c_Late) (.ref c_TooLittle) = some false ∧ PySem.W.kitOne (L2.KOf KX) (.ref c_Late) (.ref c_TooFine) = some false ∧ PySem.W.kitOne (L2.KOf KX) (.ref c_Late) (.ref c_BadPaper) = some false ∧ PySem.W.kitOne (L2.KOf KX) (.ref c_Late) (.ref c_Falls) = some false ∧ PySem.W.kitOne (L2.KOf KX) (.ref c_Late) (.ref c_Late) = some true ∧ PySem.W.kitOne (L2.KOf KX) (.ref c_Late) (.ref c_Full) = some false ∧ PySem.W.kitOne (L2.KOf KX) (.ref c_Late) (.ref c_OtherKnown) = some false ∧ PySem.W.kitOne (L2.KOf KX) (.ref c_Late) (.ref c_NoText) = some false ∧ PySem.W.kitOne (L2.KOf KX) (.ref c_Late) (.ref c_NoRow) = some false ∧ PySem.W.kitOne (L2.KOf KX) (.ref c_Late) (.ref c_BadTerm) = some false ∧ PySem.W.keepIn (L2.KOf KX) (.ref c_Late) = true := by
        dsimp only [L2.KOf]
        refine' ⟨_, _, _, _, _, _, _, _, _, _, _, _, _, _, _, L2.clsN_mk KX G ?n_BadFloora, L2.clsN_mk KX G ?n_BadTerma, L2.clsN_mk KX G ?n_BadCellsa, L2.clsN_mk KX G ?n_BadFractiona, L2.clsN_mk KX G ?n_BadSharesa, L2.clsN_mk KX G ?n_TooLittlea, L2.clsN_mk KX G ?n_TooFinea, L2.clsN_mk KX G ?n_Latea, L2.clsN_mk KX G ?n_Fulla, L2.clsN_mk KX G ?n_OtherKnowna, L2.clsN_mk KX G ?n_NoTexta, L2.clsN_mk KX G ?n_NoRowa, L2.clsN_mk KX G ?n_BadPapera, L2.clsN_mk KX G ?n_Fallsa, L2.clsN_mk KX G ?n_LandErrora, ⟨?a_Latea, ?a_Lateb, ?a_Latec, ?a_Lated, ?a_Latee⟩, ?k_Late_LandError, ?t_Late_ValueError, ?k_Late_BadFloor, ?k_Late_BadCells, ?k_Late_BadFraction, ?k_Late_BadShares, ?k_Late_TooLittle, ?k_Late_TooFine, ?k_Late_BadPaper, ?k_Late_Falls, ?k_Late_Late, ?k_Late_Full, ?k_Late_OtherKnown, ?k_Late_NoText, ?k_Late_NoRow, ?k_Late_BadTerm, ?p_Late⟩
        (case n_BadFloora => k_is)
        (case n_BadTerma => k_is)
        (case n_BadCellsa => k_is)
        (case n_BadFractiona => k_is)
        (case n_BadSharesa => k_is)
        (case n_TooLittlea => k_is)
        (case n_TooFinea => k_is)
        (case n_Latea => k_is)
        (case n_Fulla => k_is)
        (case n_OtherKnowna => k_is)
        (case n_NoTexta => k_is)
        (case n_NoRowa => k_is)
        (case n_BadPapera => k_is)
        (case n_Fallsa => k_is)
        (case n_LandErrora => k_is)
        (case a_Latea => k_is)
        (case a_Lateb => k_is)
        (case a_Latec => k_is)
        (case a_Lated => k_is)
        (case a_Latee => k_is)
        (case k_Late_LandError => kit_is)
        (case t_Late_ValueError => kit_is)
        (case k_Late_BadFloor => kit_is)
        (case k_Late_BadCells => kit_is)
        (case k_Late_BadFraction => kit_is)
        (case k_Late_BadShares => kit_is)
        (case k_Late_TooLittle => kit_is)
        (case k_Late_TooFine => kit_is)
        (case k_Late_BadPaper => kit_is)
        (case k_Late_Falls => kit_is)
        (case k_Late_Late => kit_is)
        (case k_Late_Full => kit_is)
        (case k_Late_OtherKnown => kit_is)
        (case k_Late_NoText => kit_is)
        (case k_Late_NoRow => kit_is)
        (case k_Late_BadTerm => kit_is)
        (case p_Late => k_is)
      obtain rfl : c_BadFloor = C_BadFloor := L2.ClsN.uniq n_BadFloor z_BadFloor.n
      obtain rfl : c_BadTerm = C_BadTerm := L2.ClsN.uniq n_BadTerm z_BadTerm.n
      obtain rfl : c_BadCells = C_BadCells := L2.ClsN.uniq n_BadCells z_BadCells.n
      obtain rfl : c_BadFraction = C_BadFraction := L2.ClsN.uniq n_BadFraction z_BadFraction.n
      obtain rfl : c_BadShares = C_BadShares := L2.ClsN.uniq n_BadShares z_BadShares.n
      obtain rfl : c_TooLittle = C_TooLittle := L2.ClsN.uniq n_TooLittle z_TooLittle.n
      obtain rfl : c_TooFine = C_TooFine := L2.ClsN.uniq n_TooFine z_TooFine.n
      obtain rfl : c_Late = C_Late := L2.ClsN.uniq n_Late z_Late.n
      obtain rfl : c_Full = C_Full := L2.ClsN.uniq n_Full z_Full.n
      obtain rfl : c_OtherKnown = C_OtherKnown := L2.ClsN.uniq n_OtherKnown z_OtherKnown.n
      obtain rfl : c_NoText = C_NoText := L2.ClsN.uniq n_NoText z_NoText.n
      obtain rfl : c_NoRow = C_NoRow := L2.ClsN.uniq n_NoRow z_NoRow.n
      obtain rfl : c_BadPaper = C_BadPaper := L2.ClsN.uniq n_BadPaper z_BadPaper
      obtain rfl : c_Falls = C_Falls := L2.ClsN.uniq n_Falls z_Falls
      obtain rfl : c_LandError = C_LandError := L2.ClsN.uniq n_LandError z_LandError.n
      exact ⟨a_Late, k_Late_LandError, t_Late_ValueError, k_Late_BadFloor, k_Late_BadCells, k_Late_BadFraction, k_Late_BadShares, k_Late_TooLittle, k_Late_TooFine, k_Late_BadPaper, k_Late_Falls, k_Late_Late, k_Late_Full, k_Late_OtherKnown, k_Late_NoText, k_Late_NoRow, k_Late_BadTerm, p_Late⟩
    obtain ⟨a_Full, k_Full_LandError, t_Full_ValueError, k_Full_BadFloor, k_Full_BadCells, k_Full_BadFraction, k_Full_BadShares, k_Full_TooLittle, k_Full_TooFine, k_Full_BadPaper, k_Full_Falls, k_Full_Late, k_Full_Full, k_Full_OtherKnown, k_Full_NoText, k_Full_NoRow, k_Full_BadTerm, p_Full⟩ : L2.ExcA (L2.KOf KX) C_Full ∧ PySem.W.kitOne (L2.KOf KX) (.ref C_Full) (.ref C_LandError) = some true ∧ PySem.W.kitOne (L2.KOf KX) (.ref C_Full) (.type "ValueError") = some true ∧ PySem.W.kitOne (L2.KOf KX) (.ref C_Full) (.ref C_BadFloor) = some false ∧ PySem.W.kitOne (L2.KOf KX) (.ref C_Full) (.ref C_BadCells) = some false ∧ PySem.W.kitOne (L2.KOf KX) (.ref C_Full) (.ref C_BadFraction) = some false ∧ PySem.W.kitOne (L2.KOf KX) (.ref C_Full) (.ref C_BadShares) = some false ∧ PySem.W.kitOne (L2.KOf KX) (.ref C_Full) (.ref C_TooLittle) = some false ∧ PySem.W.kitOne (L2.KOf KX) (.ref C_Full) (.ref C_TooFine) = some false ∧ PySem.W.kitOne (L2.KOf KX) (.ref C_Full) (.ref C_BadPaper) = some false ∧ PySem.W.kitOne (L2.KOf KX) (.ref C_Full) (.ref C_Falls) = some false ∧ PySem.W.kitOne (L2.KOf KX) (.ref C_Full) (.ref C_Late) = some false ∧ PySem.W.kitOne (L2.KOf KX) (.ref C_Full) (.ref C_Full) = some true ∧ PySem.W.kitOne (L2.KOf KX) (.ref C_Full) (.ref C_OtherKnown) = some false ∧ PySem.W.kitOne (L2.KOf KX) (.ref C_Full) (.ref C_NoText) = some false ∧ PySem.W.kitOne (L2.KOf KX) (.ref C_Full) (.ref C_NoRow) = some false ∧ PySem.W.kitOne (L2.KOf KX) (.ref C_Full) (.ref C_BadTerm) = some false ∧ PySem.W.keepIn (L2.KOf KX) (.ref C_Full) = true := by
      obtain ⟨c_BadFloor, c_BadTerm, c_BadCells, c_BadFraction, c_BadShares, c_TooLittle, c_TooFine, c_Late, c_Full, c_OtherKnown, c_NoText, c_NoRow, c_BadPaper, c_Falls, c_LandError, n_BadFloor, n_BadTerm, n_BadCells, n_BadFraction, n_BadShares, n_TooLittle, n_TooFine, n_Late, n_Full, n_OtherKnown, n_NoText, n_NoRow, n_BadPaper, n_Falls, n_LandError, a_Full, k_Full_LandError, t_Full_ValueError, k_Full_BadFloor, k_Full_BadCells, k_Full_BadFraction, k_Full_BadShares, k_Full_TooLittle, k_Full_TooFine, k_Full_BadPaper, k_Full_Falls, k_Full_Late, k_Full_Full, k_Full_OtherKnown, k_Full_NoText, k_Full_NoRow, k_Full_BadTerm, p_Full⟩ : ∃ c_BadFloor c_BadTerm c_BadCells c_BadFraction c_BadShares c_TooLittle c_TooFine c_Late c_Full c_OtherKnown c_NoText c_NoRow c_BadPaper c_Falls c_LandError, L2.ClsN mg "BadFloor" c_BadFloor ∧ L2.ClsN mg "BadTerm" c_BadTerm ∧ L2.ClsN mg "BadCells" c_BadCells ∧ L2.ClsN mg "BadFraction" c_BadFraction ∧ L2.ClsN mg "BadShares" c_BadShares ∧ L2.ClsN mg "TooLittle" c_TooLittle ∧ L2.ClsN mg "TooFine" c_TooFine ∧ L2.ClsN mg "Late" c_Late ∧ L2.ClsN mg "Full" c_Full ∧ L2.ClsN mg "OtherKnown" c_OtherKnown ∧ L2.ClsN mg "NoText" c_NoText ∧ L2.ClsN mg "NoRow" c_NoRow ∧ L2.ClsN mg "BadPaper" c_BadPaper ∧ L2.ClsN mg "Falls" c_Falls ∧ L2.ClsN mg "LandError" c_LandError ∧ L2.ExcA (L2.KOf KX) c_Full ∧ PySem.W.kitOne (L2.KOf KX) (.ref c_Full) (.ref c_LandError) = some true ∧ PySem.W.kitOne (L2.KOf KX) (.ref c_Full) (.type "ValueError") = some true ∧ PySem.W.kitOne (L2.KOf KX) (.ref c_Full) (.ref c_BadFloor) = some false ∧ PySem.W.kitOne (L2.KOf KX) (.ref c_Full) (.ref c_BadCells) = some false ∧ PySem.W.kitOne (L2.KOf KX) (.ref c_Full) (.ref c_BadFraction) = some false ∧ PySem.W.kitOne (L2.KOf KX) (.ref c_Full) (.ref c_BadShares) = some false ∧ PySem.W.kitOne (L2.KOf KX) (.ref c_Full) (.ref c_TooLittle) = some false ∧ PySem.W.kitOne (L2.KOf KX) (.ref c_Full) (.ref c_TooFine) = some false ∧ PySem.W.kitOne (L2.KOf KX) (.ref c_Full) (.ref c_BadPaper) = some false ∧ PySem.W.kitOne (L2.KOf KX) (.ref c_Full) (.ref c_Falls) = some false ∧ PySem.W.kitOne (L2.KOf KX) (.ref c_Full) (.ref c_Late) = some false ∧ PySem.W.kitOne (L2.KOf KX) (.ref c_Full) (.ref c_Full) = some true ∧ PySem.W.kitOne (L2.KOf KX) (.ref c_Full) (.ref c_OtherKnown) = some false ∧ PySem.W.kitOne (L2.KOf KX) (.ref c_Full) (.ref c_NoText) = some false ∧ PySem.W.kitOne (L2.KOf KX) (.ref c_Full) (.ref c_NoRow) = some false ∧ PySem.W.kitOne (L2.KOf KX) (.ref c_Full) (.ref c_BadTerm) = some false ∧ PySem.W.keepIn (L2.KOf KX) (.ref c_Full) = true := by
        dsimp only [L2.KOf]
        refine' ⟨_, _, _, _, _, _, _, _, _, _, _, _, _, _, _, L2.clsN_mk KX G ?n_BadFloora, L2.clsN_mk KX G ?n_BadTerma, L2.clsN_mk KX G ?n_BadCellsa, L2.clsN_mk KX G ?n_BadFractiona, L2.clsN_mk KX G ?n_BadSharesa, L2.clsN_mk KX G ?n_TooLittlea, L2.clsN_mk KX G ?n_TooFinea, L2.clsN_mk KX G ?n_Latea, L2.clsN_mk KX G ?n_Fulla, L2.clsN_mk KX G ?n_OtherKnowna, L2.clsN_mk KX G ?n_NoTexta, L2.clsN_mk KX G ?n_NoRowa, L2.clsN_mk KX G ?n_BadPapera, L2.clsN_mk KX G ?n_Fallsa, L2.clsN_mk KX G ?n_LandErrora, ⟨?a_Fulla, ?a_Fullb, ?a_Fullc, ?a_Fulld, ?a_Fulle⟩, ?k_Full_LandError, ?t_Full_ValueError, ?k_Full_BadFloor, ?k_Full_BadCells, ?k_Full_BadFraction, ?k_Full_BadShares, ?k_Full_TooLittle, ?k_Full_TooFine, ?k_Full_BadPaper, ?k_Full_Falls, ?k_Full_Late, ?k_Full_Full, ?k_Full_OtherKnown, ?k_Full_NoText, ?k_Full_NoRow, ?k_Full_BadTerm, ?p_Full⟩
        (case n_BadFloora => k_is)
        (case n_BadTerma => k_is)
        (case n_BadCellsa => k_is)
        (case n_BadFractiona => k_is)
        (case n_BadSharesa => k_is)
        (case n_TooLittlea => k_is)
        (case n_TooFinea => k_is)
        (case n_Latea => k_is)
        (case n_Fulla => k_is)
        (case n_OtherKnowna => k_is)
        (case n_NoTexta => k_is)
        (case n_NoRowa => k_is)
        (case n_BadPapera => k_is)
        (case n_Fallsa => k_is)
        (case n_LandErrora => k_is)
        (case a_Fulla => k_is)
        (case a_Fullb => k_is)
        (case a_Fullc => k_is)
        (case a_Fulld => k_is)
        (case a_Fulle => k_is)
        (case k_Full_LandError => kit_is)
        (case t_Full_ValueError => kit_is)
        (case k_Full_BadFloor => kit_is)
        (case k_Full_BadCells => kit_is)
        (case k_Full_BadFraction => kit_is)
        (case k_Full_BadShares => kit_is)
        (case k_Full_TooLittle => kit_is)
        (case k_Full_TooFine => kit_is)
        (case k_Full_BadPaper => kit_is)
        (case k_Full_Falls => kit_is)
        (case k_Full_Late => kit_is)
        (case k_Full_Full => kit_is)
        (case k_Full_OtherKnown => kit_is)
        (case k_Full_NoText => kit_is)
        (case k_Full_NoRow => kit_is)
        (case k_Full_BadTerm => kit_is)
        (case p_Full => k_is)
      obtain rfl : c_BadFloor = C_BadFloor := L2.ClsN.uniq n_BadFloor z_BadFloor.n
      obtain rfl : c_BadTerm = C_BadTerm := L2.ClsN.uniq n_BadTerm z_BadTerm.n
      obtain rfl : c_BadCells = C_BadCells := L2.ClsN.uniq n_BadCells z_BadCells.n
      obtain rfl : c_BadFraction = C_BadFraction := L2.ClsN.uniq n_BadFraction z_BadFraction.n
      obtain rfl : c_BadShares = C_BadShares := L2.ClsN.uniq n_BadShares z_BadShares.n
      obtain rfl : c_TooLittle = C_TooLittle := L2.ClsN.uniq n_TooLittle z_TooLittle.n
      obtain rfl : c_TooFine = C_TooFine := L2.ClsN.uniq n_TooFine z_TooFine.n
      obtain rfl : c_Late = C_Late := L2.ClsN.uniq n_Late z_Late.n
      obtain rfl : c_Full = C_Full := L2.ClsN.uniq n_Full z_Full.n
      obtain rfl : c_OtherKnown = C_OtherKnown := L2.ClsN.uniq n_OtherKnown z_OtherKnown.n
      obtain rfl : c_NoText = C_NoText := L2.ClsN.uniq n_NoText z_NoText.n
      obtain rfl : c_NoRow = C_NoRow := L2.ClsN.uniq n_NoRow z_NoRow.n
      obtain rfl : c_BadPaper = C_BadPaper := L2.ClsN.uniq n_BadPaper z_BadPaper
      obtain rfl : c_Falls = C_Falls := L2.ClsN.uniq n_Falls z_Falls
      obtain rfl : c_LandError = C_LandError := L2.ClsN.uniq n_LandError z_LandError.n
      exact ⟨a_Full, k_Full_LandError, t_Full_ValueError, k_Full_BadFloor, k_Full_BadCells, k_Full_BadFraction, k_Full_BadShares, k_Full_TooLittle, k_Full_TooFine, k_Full_BadPaper, k_Full_Falls, k_Full_Late, k_Full_Full, k_Full_OtherKnown, k_Full_NoText, k_Full_NoRow, k_Full_BadTerm, p_Full⟩
    obtain ⟨a_OtherKnown, k_OtherKnown_LandError, t_OtherKnown_ValueError, k_OtherKnown_BadFloor, k_OtherKnown_BadCells, k_OtherKnown_BadFraction, k_OtherKnown_BadShares, k_OtherKnown_TooLittle, k_OtherKnown_TooFine, k_OtherKnown_BadPaper, k_OtherKnown_Falls, k_OtherKnown_Late, k_OtherKnown_Full, k_OtherKnown_OtherKnown, k_OtherKnown_NoText, k_OtherKnown_NoRow, k_OtherKnown_BadTerm, p_OtherKnown⟩ : L2.ExcA (L2.KOf KX) C_OtherKnown ∧ PySem.W.kitOne (L2.KOf KX) (.ref C_OtherKnown) (.ref C_LandError) = some true ∧ PySem.W.kitOne (L2.KOf KX) (.ref C_OtherKnown) (.type "ValueError") = some true ∧ PySem.W.kitOne (L2.KOf KX) (.ref C_OtherKnown) (.ref C_BadFloor) = some false ∧ PySem.W.kitOne (L2.KOf KX) (.ref C_OtherKnown) (.ref C_BadCells) = some false ∧ PySem.W.kitOne (L2.KOf KX) (.ref C_OtherKnown) (.ref C_BadFraction) = some false ∧ PySem.W.kitOne (L2.KOf KX) (.ref C_OtherKnown) (.ref C_BadShares) = some false ∧ PySem.W.kitOne (L2.KOf KX) (.ref C_OtherKnown) (.ref C_TooLittle) = some false ∧ PySem.W.kitOne (L2.KOf KX) (.ref C_OtherKnown) (.ref C_TooFine) = some false ∧ PySem.W.kitOne (L2.KOf KX) (.ref C_OtherKnown) (.ref C_BadPaper) = some false ∧ PySem.W.kitOne (L2.KOf KX) (.ref C_OtherKnown) (.ref C_Falls) = some false ∧ PySem.W.kitOne (L2.KOf KX) (.ref C_OtherKnown) (.ref C_Late) = some false ∧ PySem.W.kitOne (L2.KOf KX) (.ref C_OtherKnown) (.ref C_Full) = some false ∧ PySem.W.kitOne (L2.KOf KX) (.ref C_OtherKnown) (.ref C_OtherKnown) = some true ∧ PySem.W.kitOne (L2.KOf KX) (.ref C_OtherKnown) (.ref C_NoText) = some false ∧ PySem.W.kitOne (L2.KOf KX) (.ref C_OtherKnown) (.ref C_NoRow) = some false ∧ PySem.W.kitOne (L2.KOf KX) (.ref C_OtherKnown) (.ref C_BadTerm) = some false ∧ PySem.W.keepIn (L2.KOf KX) (.ref C_OtherKnown) = true := by
      obtain ⟨c_BadFloor, c_BadTerm, c_BadCells, c_BadFraction, c_BadShares, c_TooLittle, c_TooFine, c_Late, c_Full, c_OtherKnown, c_NoText, c_NoRow, c_BadPaper, c_Falls, c_LandError, n_BadFloor, n_BadTerm, n_BadCells, n_BadFraction, n_BadShares, n_TooLittle, n_TooFine, n_Late, n_Full, n_OtherKnown, n_NoText, n_NoRow, n_BadPaper, n_Falls, n_LandError, a_OtherKnown, k_OtherKnown_LandError, t_OtherKnown_ValueError, k_OtherKnown_BadFloor, k_OtherKnown_BadCells, k_OtherKnown_BadFraction, k_OtherKnown_BadShares, k_OtherKnown_TooLittle, k_OtherKnown_TooFine, k_OtherKnown_BadPaper, k_OtherKnown_Falls, k_OtherKnown_Late, k_OtherKnown_Full, k_OtherKnown_OtherKnown, k_OtherKnown_NoText, k_OtherKnown_NoRow, k_OtherKnown_BadTerm, p_OtherKnown⟩ : ∃ c_BadFloor c_BadTerm c_BadCells c_BadFraction c_BadShares c_TooLittle c_TooFine c_Late c_Full c_OtherKnown c_NoText c_NoRow c_BadPaper c_Falls c_LandError, L2.ClsN mg "BadFloor" c_BadFloor ∧ L2.ClsN mg "BadTerm" c_BadTerm ∧ L2.ClsN mg "BadCells" c_BadCells ∧ L2.ClsN mg "BadFraction" c_BadFraction ∧ L2.ClsN mg "BadShares" c_BadShares ∧ L2.ClsN mg "TooLittle" c_TooLittle ∧ L2.ClsN mg "TooFine" c_TooFine ∧ L2.ClsN mg "Late" c_Late ∧ L2.ClsN mg "Full" c_Full ∧ L2.ClsN mg "OtherKnown" c_OtherKnown ∧ L2.ClsN mg "NoText" c_NoText ∧ L2.ClsN mg "NoRow" c_NoRow ∧ L2.ClsN mg "BadPaper" c_BadPaper ∧ L2.ClsN mg "Falls" c_Falls ∧ L2.ClsN mg "LandError" c_LandError ∧ L2.ExcA (L2.KOf KX) c_OtherKnown ∧ PySem.W.kitOne (L2.KOf KX) (.ref c_OtherKnown) (.ref c_LandError) = some true ∧ PySem.W.kitOne (L2.KOf KX) (.ref c_OtherKnown) (.type "ValueError") = some true ∧ PySem.W.kitOne (L2.KOf KX) (.ref c_OtherKnown) (.ref c_BadFloor) = some false ∧ PySem.W.kitOne (L2.KOf KX) (.ref c_OtherKnown) (.ref c_BadCells) = some false ∧ PySem.W.kitOne (L2.KOf KX) (.ref c_OtherKnown) (.ref c_BadFraction) = some false ∧ PySem.W.kitOne (L2.KOf KX) (.ref c_OtherKnown) (.ref c_BadShares) = some false ∧ PySem.W.kitOne (L2.KOf KX) (.ref c_OtherKnown) (.ref c_TooLittle) = some false ∧ PySem.W.kitOne (L2.KOf KX) (.ref c_OtherKnown) (.ref c_TooFine) = some false ∧ PySem.W.kitOne (L2.KOf KX) (.ref c_OtherKnown) (.ref c_BadPaper) = some false ∧ PySem.W.kitOne (L2.KOf KX) (.ref c_OtherKnown) (.ref c_Falls) = some false ∧ PySem.W.kitOne (L2.KOf KX) (.ref c_OtherKnown) (.ref c_Late) = some false ∧ PySem.W.kitOne (L2.KOf KX) (.ref c_OtherKnown) (.ref c_Full) = some false ∧ PySem.W.kitOne (L2.KOf KX) (.ref c_OtherKnown) (.ref c_OtherKnown) = some true ∧ PySem.W.kitOne (L2.KOf KX) (.ref c_OtherKnown) (.ref c_NoText) = some false ∧ PySem.W.kitOne (L2.KOf KX) (.ref c_OtherKnown) (.ref c_NoRow) = some false ∧ PySem.W.kitOne (L2.KOf KX) (.ref c_OtherKnown) (.ref c_BadTerm) = some false ∧ PySem.W.keepIn (L2.KOf KX) (.ref c_OtherKnown) = true := by
        dsimp only [L2.KOf]
        refine' ⟨_, _, _, _, _, _, _, _, _, _, _, _, _, _, _, L2.clsN_mk KX G ?n_BadFloora, L2.clsN_mk KX G ?n_BadTerma, L2.clsN_mk KX G ?n_BadCellsa, L2.clsN_mk KX G ?n_BadFractiona, L2.clsN_mk KX G ?n_BadSharesa, L2.clsN_mk KX G ?n_TooLittlea, L2.clsN_mk KX G ?n_TooFinea, L2.clsN_mk KX G ?n_Latea, L2.clsN_mk KX G ?n_Fulla, L2.clsN_mk KX G ?n_OtherKnowna, L2.clsN_mk KX G ?n_NoTexta, L2.clsN_mk KX G ?n_NoRowa, L2.clsN_mk KX G ?n_BadPapera, L2.clsN_mk KX G ?n_Fallsa, L2.clsN_mk KX G ?n_LandErrora, ⟨?a_OtherKnowna, ?a_OtherKnownb, ?a_OtherKnownc, ?a_OtherKnownd, ?a_OtherKnowne⟩, ?k_OtherKnown_LandError, ?t_OtherKnown_ValueError, ?k_OtherKnown_BadFloor, ?k_OtherKnown_BadCells, ?k_OtherKnown_BadFraction, ?k_OtherKnown_BadShares, ?k_OtherKnown_TooLittle, ?k_OtherKnown_TooFine, ?k_OtherKnown_BadPaper, ?k_OtherKnown_Falls, ?k_OtherKnown_Late, ?k_OtherKnown_Full, ?k_OtherKnown_OtherKnown, ?k_OtherKnown_NoText, ?k_OtherKnown_NoRow, ?k_OtherKnown_BadTerm, ?p_OtherKnown⟩
        (case n_BadFloora => k_is)
        (case n_BadTerma => k_is)
        (case n_BadCellsa => k_is)
        (case n_BadFractiona => k_is)
        (case n_BadSharesa => k_is)
        (case n_TooLittlea => k_is)
        (case n_TooFinea => k_is)
        (case n_Latea => k_is)
        (case n_Fulla => k_is)
        (case n_OtherKnowna => k_is)
        (case n_NoTexta => k_is)
        (case n_NoRowa => k_is)
        (case n_BadPapera => k_is)
        (case n_Fallsa => k_is)
        (case n_LandErrora => k_is)
        (case a_OtherKnowna => k_is)
        (case a_OtherKnownb => k_is)
        (case a_OtherKnownc => k_is)
        (case a_OtherKnownd => k_is)
        (case a_OtherKnowne => k_is)
        (case k_OtherKnown_LandError => kit_is)
        (case t_OtherKnown_ValueError => kit_is)
        (case k_OtherKnown_BadFloor => kit_is)
        (case k_OtherKnown_BadCells => kit_is)
        (case k_OtherKnown_BadFraction => kit_is)
        (case k_OtherKnown_BadShares => kit_is)
        (case k_OtherKnown_TooLittle => kit_is)
        (case k_OtherKnown_TooFine => kit_is)
        (case k_OtherKnown_BadPaper => kit_is)
        (case k_OtherKnown_Falls => kit_is)
        (case k_OtherKnown_Late => kit_is)
        (case k_OtherKnown_Full => kit_is)
        (case k_OtherKnown_OtherKnown => kit_is)
        (case k_OtherKnown_NoText => kit_is)
        (case k_OtherKnown_NoRow => kit_is)
        (case k_OtherKnown_BadTerm => kit_is)
        (case p_OtherKnown => k_is)
      obtain rfl : c_BadFloor = C_BadFloor := L2.ClsN.uniq n_BadFloor z_BadFloor.n
      obtain rfl : c_BadTerm = C_BadTerm := L2.ClsN.uniq n_BadTerm z_BadTerm.n
      obtain rfl : c_BadCells = C_BadCells := L2.ClsN.uniq n_BadCells z_BadCells.n
      obtain rfl : c_BadFraction = C_BadFraction := L2.ClsN.uniq n_BadFraction z_BadFraction.n
      obtain rfl : c_BadShares = C_BadShares := L2.ClsN.uniq n_BadShares z_BadShares.n
      obtain rfl : c_TooLittle = C_TooLittle := L2.ClsN.uniq n_TooLittle z_TooLittle.n
      obtain rfl : c_TooFine = C_TooFine := L2.ClsN.uniq n_TooFine z_TooFine.n
      obtain rfl : c_Late = C_Late := L2.ClsN.uniq n_Late z_Late.n
      obtain rfl : c_Full = C_Full := L2.ClsN.uniq n_Full z_Full.n
      obtain rfl : c_OtherKnown = C_OtherKnown := L2.ClsN.uniq n_OtherKnown z_OtherKnown.n
      obtain rfl : c_NoText = C_NoText := L2.ClsN.uniq n_NoText z_NoText.n
      obtain rfl : c_NoRow = C_NoRow := L2.ClsN.uniq n_NoRow z_NoRow.n
      obtain rfl : c_BadPaper = C_BadPaper := L2.ClsN.uniq n_BadPaper z_BadPaper
      obtain rfl : c_Falls = C_Falls := L2.ClsN.uniq n_Falls z_Falls
      obtain rfl : c_LandError = C_LandError := L2.ClsN.uniq n_LandError z_LandError.n
      exact ⟨a_OtherKnown, k_OtherKnown_LandError, t_OtherKnown_ValueError, k_OtherKnown_BadFloor, k_OtherKnown_BadCells, k_OtherKnown_BadFraction, k_OtherKnown_BadShares, k_OtherKnown_TooLittle, k_OtherKnown_TooFine, k_OtherKnown_BadPaper, k_OtherKnown_Falls, k_OtherKnown_Late, k_OtherKnown_Full, k_OtherKnown_OtherKnown, k_OtherKnown_NoText, k_OtherKnown_NoRow, k_OtherKnown_BadTerm, p_OtherKnown⟩
    obtain ⟨a_NoText, k_NoText_LandError, t_NoText_ValueError, k_NoText_BadFloor, k_NoText_BadCells, k_NoText_BadFraction, k_NoText_BadShares, k_NoText_TooLittle, k_NoText_TooFine, k_NoText_BadPaper, k_NoText_Falls, k_NoText_Late, k_NoText_Full, k_NoText_OtherKnown, k_NoText_NoText, k_NoText_NoRow, k_NoText_BadTerm, p_NoText⟩ : L2.ExcA (L2.KOf KX) C_NoText ∧ PySem.W.kitOne (L2.KOf KX) (.ref C_NoText) (.ref C_LandError) = some true ∧ PySem.W.kitOne (L2.KOf KX) (.ref C_NoText) (.type "ValueError") = some true ∧ PySem.W.kitOne (L2.KOf KX) (.ref C_NoText) (.ref C_BadFloor) = some false ∧ PySem.W.kitOne (L2.KOf KX) (.ref C_NoText) (.ref C_BadCells) = some false ∧ PySem.W.kitOne (L2.KOf KX) (.ref C_NoText) (.ref C_BadFraction) = some false ∧ PySem.W.kitOne (L2.KOf KX) (.ref C_NoText) (.ref C_BadShares) = some false ∧ PySem.W.kitOne (L2.KOf KX) (.ref C_NoText) (.ref C_TooLittle) = some false ∧ PySem.W.kitOne (L2.KOf KX) (.ref C_NoText) (.ref C_TooFine) = some false ∧ PySem.W.kitOne (L2.KOf KX) (.ref C_NoText) (.ref C_BadPaper) = some false ∧ PySem.W.kitOne (L2.KOf KX) (.ref C_NoText) (.ref C_Falls) = some false ∧ PySem.W.kitOne (L2.KOf KX) (.ref C_NoText) (.ref C_Late) = some false ∧ PySem.W.kitOne (L2.KOf KX) (.ref C_NoText) (.ref C_Full) = some false ∧ PySem.W.kitOne (L2.KOf KX) (.ref C_NoText) (.ref C_OtherKnown) = some false ∧ PySem.W.kitOne (L2.KOf KX) (.ref C_NoText) (.ref C_NoText) = some true ∧ PySem.W.kitOne (L2.KOf KX) (.ref C_NoText) (.ref C_NoRow) = some false ∧ PySem.W.kitOne (L2.KOf KX) (.ref C_NoText) (.ref C_BadTerm) = some false ∧ PySem.W.keepIn (L2.KOf KX) (.ref C_NoText) = true := by
      obtain ⟨c_BadFloor, c_BadTerm, c_BadCells, c_BadFraction, c_BadShares, c_TooLittle, c_TooFine, c_Late, c_Full, c_OtherKnown, c_NoText, c_NoRow, c_BadPaper, c_Falls, c_LandError, n_BadFloor, n_BadTerm, n_BadCells, n_BadFraction, n_BadShares, n_TooLittle, n_TooFine, n_Late, n_Full, n_OtherKnown, n_NoText, n_NoRow, n_BadPaper, n_Falls, n_LandError, a_NoText, k_NoText_LandError, t_NoText_ValueError, k_NoText_BadFloor, k_NoText_BadCells, k_NoText_BadFraction, k_NoText_BadShares, k_NoText_TooLittle, k_NoText_TooFine, k_NoText_BadPaper, k_NoText_Falls, k_NoText_Late, k_NoText_Full, k_NoText_OtherKnown, k_NoText_NoText, k_NoText_NoRow, k_NoText_BadTerm, p_NoText⟩ : ∃ c_BadFloor c_BadTerm c_BadCells c_BadFraction c_BadShares c_TooLittle c_TooFine c_Late c_Full c_OtherKnown c_NoText c_NoRow c_BadPaper c_Falls c_LandError, L2.ClsN mg "BadFloor" c_BadFloor ∧ L2.ClsN mg "BadTerm" c_BadTerm ∧ L2.ClsN mg "BadCells" c_BadCells ∧ L2.ClsN mg "BadFraction" c_BadFraction ∧ L2.ClsN mg "BadShares" c_BadShares ∧ L2.ClsN mg "TooLittle" c_TooLittle ∧ L2.ClsN mg "TooFine" c_TooFine ∧ L2.ClsN mg "Late" c_Late ∧ L2.ClsN mg "Full" c_Full ∧ L2.ClsN mg "OtherKnown" c_OtherKnown ∧ L2.ClsN mg "NoText" c_NoText ∧ L2.ClsN mg "NoRow" c_NoRow ∧ L2.ClsN mg "BadPaper" c_BadPaper ∧ L2.ClsN mg "Falls" c_Falls ∧ L2.ClsN mg "LandError" c_LandError ∧ L2.ExcA (L2.KOf KX) c_NoText ∧ PySem.W.kitOne (L2.KOf KX) (.ref c_NoText) (.ref c_LandError) = some true ∧ PySem.W.kitOne (L2.KOf KX) (.ref c_NoText) (.type "ValueError") = some true ∧ PySem.W.kitOne (L2.KOf KX) (.ref c_NoText) (.ref c_BadFloor) = some false ∧ PySem.W.kitOne (L2.KOf KX) (.ref c_NoText) (.ref c_BadCells) = some false ∧ PySem.W.kitOne (L2.KOf KX) (.ref c_NoText) (.ref c_BadFraction) = some false ∧ PySem.W.kitOne (L2.KOf KX) (.ref c_NoText) (.ref c_BadShares) = some false ∧ PySem.W.kitOne (L2.KOf KX) (.ref c_NoText) (.ref c_TooLittle) = some false ∧ PySem.W.kitOne (L2.KOf KX) (.ref c_NoText) (.ref c_TooFine) = some false ∧ PySem.W.kitOne (L2.KOf KX) (.ref c_NoText) (.ref c_BadPaper) = some false ∧ PySem.W.kitOne (L2.KOf KX) (.ref c_NoText) (.ref c_Falls) = some false ∧ PySem.W.kitOne (L2.KOf KX) (.ref c_NoText) (.ref c_Late) = some false ∧ PySem.W.kitOne (L2.KOf KX) (.ref c_NoText) (.ref c_Full) = some false ∧ PySem.W.kitOne (L2.KOf KX) (.ref c_NoText) (.ref c_OtherKnown) = some false ∧ PySem.W.kitOne (L2.KOf KX) (.ref c_NoText) (.ref c_NoText) = some true ∧ PySem.W.kitOne (L2.KOf KX) (.ref c_NoText) (.ref c_NoRow) = some false ∧ PySem.W.kitOne (L2.KOf KX) (.ref c_NoText) (.ref c_BadTerm) = some false ∧ PySem.W.keepIn (L2.KOf KX) (.ref c_NoText) = true := by
        dsimp only [L2.KOf]
        refine' ⟨_, _, _, _, _, _, _, _, _, _, _, _, _, _, _, L2.clsN_mk KX G ?n_BadFloora, L2.clsN_mk KX G ?n_BadTerma, L2.clsN_mk KX G ?n_BadCellsa, L2.clsN_mk KX G ?n_BadFractiona, L2.clsN_mk KX G ?n_BadSharesa, L2.clsN_mk KX G ?n_TooLittlea, L2.clsN_mk KX G ?n_TooFinea, L2.clsN_mk KX G ?n_Latea, L2.clsN_mk KX G ?n_Fulla, L2.clsN_mk KX G ?n_OtherKnowna, L2.clsN_mk KX G ?n_NoTexta, L2.clsN_mk KX G ?n_NoRowa, L2.clsN_mk KX G ?n_BadPapera, L2.clsN_mk KX G ?n_Fallsa, L2.clsN_mk KX G ?n_LandErrora, ⟨?a_NoTexta, ?a_NoTextb, ?a_NoTextc, ?a_NoTextd, ?a_NoTexte⟩, ?k_NoText_LandError, ?t_NoText_ValueError, ?k_NoText_BadFloor, ?k_NoText_BadCells, ?k_NoText_BadFraction, ?k_NoText_BadShares, ?k_NoText_TooLittle, ?k_NoText_TooFine, ?k_NoText_BadPaper, ?k_NoText_Falls, ?k_NoText_Late, ?k_NoText_Full, ?k_NoText_OtherKnown, ?k_NoText_NoText, ?k_NoText_NoRow, ?k_NoText_BadTerm, ?p_NoText⟩
        (case n_BadFloora => k_is)
        (case n_BadTerma => k_is)
        (case n_BadCellsa => k_is)
        (case n_BadFractiona => k_is)
        (case n_BadSharesa => k_is)
        (case n_TooLittlea => k_is)
        (case n_TooFinea => k_is)
        (case n_Latea => k_is)
        (case n_Fulla => k_is)
        (case n_OtherKnowna => k_is)
        (case n_NoTexta => k_is)
        (case n_NoRowa => k_is)
        (case n_BadPapera => k_is)
        (case n_Fallsa => k_is)
        (case n_LandErrora => k_is)
        (case a_NoTexta => k_is)
        (case a_NoTextb => k_is)
        (case a_NoTextc => k_is)
        (case a_NoTextd => k_is)
        (case a_NoTexte => k_is)
        (case k_NoText_LandError => kit_is)
        (case t_NoText_ValueError => kit_is)
        (case k_NoText_BadFloor => kit_is)
        (case k_NoText_BadCells => kit_is)
        (case k_NoText_BadFraction => kit_is)
        (case k_NoText_BadShares => kit_is)
        (case k_NoText_TooLittle => kit_is)
        (case k_NoText_TooFine => kit_is)
        (case k_NoText_BadPaper => kit_is)
        (case k_NoText_Falls => kit_is)
        (case k_NoText_Late => kit_is)
        (case k_NoText_Full => kit_is)
        (case k_NoText_OtherKnown => kit_is)
        (case k_NoText_NoText => kit_is)
        (case k_NoText_NoRow => kit_is)
        (case k_NoText_BadTerm => kit_is)
        (case p_NoText => k_is)
      obtain rfl : c_BadFloor = C_BadFloor := L2.ClsN.uniq n_BadFloor z_BadFloor.n
      obtain rfl : c_BadTerm = C_BadTerm := L2.ClsN.uniq n_BadTerm z_BadTerm.n
      obtain rfl : c_BadCells = C_BadCells := L2.ClsN.uniq n_BadCells z_BadCells.n
      obtain rfl : c_BadFraction = C_BadFraction := L2.ClsN.uniq n_BadFraction z_BadFraction.n
      obtain rfl : c_BadShares = C_BadShares := L2.ClsN.uniq n_BadShares z_BadShares.n
      obtain rfl : c_TooLittle = C_TooLittle := L2.ClsN.uniq n_TooLittle z_TooLittle.n
      obtain rfl : c_TooFine = C_TooFine := L2.ClsN.uniq n_TooFine z_TooFine.n
      obtain rfl : c_Late = C_Late := L2.ClsN.uniq n_Late z_Late.n
      obtain rfl : c_Full = C_Full := L2.ClsN.uniq n_Full z_Full.n
      obtain rfl : c_OtherKnown = C_OtherKnown := L2.ClsN.uniq n_OtherKnown z_OtherKnown.n
      obtain rfl : c_NoText = C_NoText := L2.ClsN.uniq n_NoText z_NoText.n
      obtain rfl : c_NoRow = C_NoRow := L2.ClsN.uniq n_NoRow z_NoRow.n
      obtain rfl : c_BadPaper = C_BadPaper := L2.ClsN.uniq n_BadPaper z_BadPaper
      obtain rfl : c_Falls = C_Falls := L2.ClsN.uniq n_Falls z_Falls
      obtain rfl : c_LandError = C_LandError := L2.ClsN.uniq n_LandError z_LandError.n
      exact ⟨a_NoText, k_NoText_LandError, t_NoText_ValueError, k_NoText_BadFloor, k_NoText_BadCells, k_NoText_BadFraction, k_NoText_BadShares, k_NoText_TooLittle, k_NoText_TooFine, k_NoText_BadPaper, k_NoText_Falls, k_NoText_Late, k_NoText_Full, k_NoText_OtherKnown, k_NoText_NoText, k_NoText_NoRow, k_NoText_BadTerm, p_NoText⟩
    obtain ⟨a_NoRow, k_NoRow_LandError, t_NoRow_ValueError, k_NoRow_BadFloor, k_NoRow_BadCells, k_NoRow_BadFraction, k_NoRow_BadShares, k_NoRow_TooLittle, k_NoRow_TooFine, k_NoRow_BadPaper, k_NoRow_Falls, k_NoRow_Late, k_NoRow_Full, k_NoRow_OtherKnown, k_NoRow_NoText, k_NoRow_NoRow, k_NoRow_BadTerm, p_NoRow⟩ : L2.ExcA (L2.KOf KX) C_NoRow ∧ PySem.W.kitOne (L2.KOf KX) (.ref C_NoRow) (.ref C_LandError) = some true ∧ PySem.W.kitOne (L2.KOf KX) (.ref C_NoRow) (.type "ValueError") = some true ∧ PySem.W.kitOne (L2.KOf KX) (.ref C_NoRow) (.ref C_BadFloor) = some false ∧ PySem.W.kitOne (L2.KOf KX) (.ref C_NoRow) (.ref C_BadCells) = some false ∧ PySem.W.kitOne (L2.KOf KX) (.ref C_NoRow) (.ref C_BadFraction) = some false ∧ PySem.W.kitOne (L2.KOf KX) (.ref C_NoRow) (.ref C_BadShares) = some false ∧ PySem.W.kitOne (L2.KOf KX) (.ref C_NoRow) (.ref C_TooLittle) = some false ∧ PySem.W.kitOne (L2.KOf KX) (.ref C_NoRow) (.ref C_TooFine) = some false ∧ PySem.W.kitOne (L2.KOf KX) (.ref C_NoRow) (.ref C_BadPaper) = some false ∧ PySem.W.kitOne (L2.KOf KX) (.ref C_NoRow) (.ref C_Falls) = some false ∧ PySem.W.kitOne (L2.KOf KX) (.ref C_NoRow) (.ref C_Late) = some false ∧ PySem.W.kitOne (L2.KOf KX) (.ref C_NoRow) (.ref C_Full) = some false ∧ PySem.W.kitOne (L2.KOf KX) (.ref C_NoRow) (.ref C_OtherKnown) = some false ∧ PySem.W.kitOne (L2.KOf KX) (.ref C_NoRow) (.ref C_NoText) = some false ∧ PySem.W.kitOne (L2.KOf KX) (.ref C_NoRow) (.ref C_NoRow) = some true ∧ PySem.W.kitOne (L2.KOf KX) (.ref C_NoRow) (.ref C_BadTerm) = some false ∧ PySem.W.keepIn (L2.KOf KX) (.ref C_NoRow) = true := by
      obtain ⟨c_BadFloor, c_BadTerm, c_BadCells, c_BadFraction, c_BadShares, c_TooLittle, c_TooFine, c_Late, c_Full, c_OtherKnown, c_NoText, c_NoRow, c_BadPaper, c_Falls, c_LandError, n_BadFloor, n_BadTerm, n_BadCells, n_BadFraction, n_BadShares, n_TooLittle, n_TooFine, n_Late, n_Full, n_OtherKnown, n_NoText, n_NoRow, n_BadPaper, n_Falls, n_LandError, a_NoRow, k_NoRow_LandError, t_NoRow_ValueError, k_NoRow_BadFloor, k_NoRow_BadCells, k_NoRow_BadFraction, k_NoRow_BadShares, k_NoRow_TooLittle, k_NoRow_TooFine, k_NoRow_BadPaper, k_NoRow_Falls, k_NoRow_Late, k_NoRow_Full, k_NoRow_OtherKnown, k_NoRow_NoText, k_NoRow_NoRow, k_NoRow_BadTerm, p_NoRow⟩ : ∃ c_BadFloor c_BadTerm c_BadCells c_BadFraction c_BadShares c_TooLittle c_TooFine c_Late c_Full c_OtherKnown c_NoText c_NoRow c_BadPaper c_Falls c_LandError, L2.ClsN mg "BadFloor" c_BadFloor ∧ L2.ClsN mg "BadTerm" c_BadTerm ∧ L2.ClsN mg "BadCells" c_BadCells ∧ L2.ClsN mg "BadFraction" c_BadFraction ∧ L2.ClsN mg "BadShares" c_BadShares ∧ L2.ClsN mg "TooLittle" c_TooLittle ∧ L2.ClsN mg "TooFine" c_TooFine ∧ L2.ClsN mg "Late" c_Late ∧ L2.ClsN mg "Full" c_Full ∧ L2.ClsN mg "OtherKnown" c_OtherKnown ∧ L2.ClsN mg "NoText" c_NoText ∧ L2.ClsN mg "NoRow" c_NoRow ∧ L2.ClsN mg "BadPaper" c_BadPaper ∧ L2.ClsN mg "Falls" c_Falls ∧ L2.ClsN mg "LandError" c_LandError ∧ L2.ExcA (L2.KOf KX) c_NoRow ∧ PySem.W.kitOne (L2.KOf KX) (.ref c_NoRow) (.ref c_LandError) = some true ∧ PySem.W.kitOne (L2.KOf KX) (.ref c_NoRow) (.type "ValueError") = some true ∧ PySem.W.kitOne (L2.KOf KX) (.ref c_NoRow) (.ref c_BadFloor) = some false ∧ PySem.W.kitOne (L2.KOf KX) (.ref c_NoRow) (.ref c_BadCells) = some false ∧ PySem.W.kitOne (L2.KOf KX) (.ref c_NoRow) (.ref c_BadFraction) = some false ∧ PySem.W.kitOne (L2.KOf KX) (.ref c_NoRow) (.ref c_BadShares) = some false ∧ PySem.W.kitOne (L2.KOf KX) (.ref c_NoRow) (.ref c_TooLittle) = some false ∧ PySem.W.kitOne (L2.KOf KX) (.ref c_NoRow) (.ref c_TooFine) = some false ∧ PySem.W.kitOne (L2.KOf KX) (.ref c_NoRow) (.ref c_BadPaper) = some false ∧ PySem.W.kitOne (L2.KOf KX) (.ref c_NoRow) (.ref c_Falls) = some false ∧ PySem.W.kitOne (L2.KOf KX) (.ref c_NoRow) (.ref c_Late) = some false ∧ PySem.W.kitOne (L2.KOf KX) (.ref c_NoRow) (.ref c_Full) = some false ∧ PySem.W.kitOne (L2.KOf KX) (.ref c_NoRow) (.ref c_OtherKnown) = some false ∧ PySem.W.kitOne (L2.KOf KX) (.ref c_NoRow) (.ref c_NoText) = some false ∧ PySem.W.kitOne (L2.KOf KX) (.ref c_NoRow) (.ref c_NoRow) = some true ∧ PySem.W.kitOne (L2.KOf KX) (.ref c_NoRow) (.ref c_BadTerm) = some false ∧ PySem.W.keepIn (L2.KOf KX) (.ref c_NoRow) = true := by
        dsimp only [L2.KOf]
        refine' ⟨_, _, _, _, _, _, _, _, _, _, _, _, _, _, _, L2.clsN_mk KX G ?n_BadFloora, L2.clsN_mk KX G ?n_BadTerma, L2.clsN_mk KX G ?n_BadCellsa, L2.clsN_mk KX G ?n_BadFractiona, L2.clsN_mk KX G ?n_BadSharesa, L2.clsN_mk KX G ?n_TooLittlea, L2.clsN_mk KX G ?n_TooFinea, L2.clsN_mk KX G ?n_Latea, L2.clsN_mk KX G ?n_Fulla, L2.clsN_mk KX G ?n_OtherKnowna, L2.clsN_mk KX G ?n_NoTexta, L2.clsN_mk KX G ?n_NoRowa, L2.clsN_mk KX G ?n_BadPapera, L2.clsN_mk KX G ?n_Fallsa, L2.clsN_mk KX G ?n_LandErrora, ⟨?a_NoRowa, ?a_NoRowb, ?a_NoRowc, ?a_NoRowd, ?a_NoRowe⟩, ?k_NoRow_LandError, ?t_NoRow_ValueError, ?k_NoRow_BadFloor, ?k_NoRow_BadCells, ?k_NoRow_BadFraction, ?k_NoRow_BadShares, ?k_NoRow_TooLittle, ?k_NoRow_TooFine, ?k_NoRow_BadPaper, ?k_NoRow_Falls, ?k_NoRow_Late, ?k_NoRow_Full, ?k_NoRow_OtherKnown, ?k_NoRow_NoText, ?k_NoRow_NoRow, ?k_NoRow_BadTerm, ?p_NoRow⟩
        (case n_BadFloora => k_is)
        (case n_BadTerma => k_is)
        (case n_BadCellsa => k_is)
        (case n_BadFractiona => k_is)
        (case n_BadSharesa => k_is)
        (case n_TooLittlea => k_is)
        (case n_TooFinea => k_is)
        (case n_Latea => k_is)
        (case n_Fulla => k_is)
        (case n_OtherKnowna => k_is)
        (case n_NoTexta => k_is)
        (case n_NoRowa => k_is)
        (case n_BadPapera => k_is)
        (case n_Fallsa => k_is)
        (case n_LandErrora => k_is)
        (case a_NoRowa => k_is)
        (case a_NoRowb => k_is)
        (case a_NoRowc => k_is)
        (case a_NoRowd => k_is)
        (case a_NoRowe => k_is)
        (case k_NoRow_LandError => kit_is)
        (case t_NoRow_ValueError => kit_is)
        (case k_NoRow_BadFloor => kit_is)
        (case k_NoRow_BadCells => kit_is)
        (case k_NoRow_BadFraction => kit_is)
        (case k_NoRow_BadShares => kit_is)
        (case k_NoRow_TooLittle => kit_is)
        (case k_NoRow_TooFine => kit_is)
        (case k_NoRow_BadPaper => kit_is)
        (case k_NoRow_Falls => kit_is)
        (case k_NoRow_Late => kit_is)
        (case k_NoRow_Full => kit_is)
        (case k_NoRow_OtherKnown => kit_is)
        (case k_NoRow_NoText => kit_is)
        (case k_NoRow_NoRow => kit_is)
        (case k_NoRow_BadTerm => kit_is)
        (case p_NoRow => k_is)
      obtain rfl : c_BadFloor = C_BadFloor := L2.ClsN.uniq n_BadFloor z_BadFloor.n
      obtain rfl : c_BadTerm = C_BadTerm := L2.ClsN.uniq n_BadTerm z_BadTerm.n
      obtain rfl : c_BadCells = C_BadCells := L2.ClsN.uniq n_BadCells z_BadCells.n
      obtain rfl : c_BadFraction = C_BadFraction := L2.ClsN.uniq n_BadFraction z_BadFraction.n
      obtain rfl : c_BadShares = C_BadShares := L2.ClsN.uniq n_BadShares z_BadShares.n
      obtain rfl : c_TooLittle = C_TooLittle := L2.ClsN.uniq n_TooLittle z_TooLittle.n
      obtain rfl : c_TooFine = C_TooFine := L2.ClsN.uniq n_TooFine z_TooFine.n
      obtain rfl : c_Late = C_Late := L2.ClsN.uniq n_Late z_Late.n
      obtain rfl : c_Full = C_Full := L2.ClsN.uniq n_Full z_Full.n
      obtain rfl : c_OtherKnown = C_OtherKnown := L2.ClsN.uniq n_OtherKnown z_OtherKnown.n
      obtain rfl : c_NoText = C_NoText := L2.ClsN.uniq n_NoText z_NoText.n
      obtain rfl : c_NoRow = C_NoRow := L2.ClsN.uniq n_NoRow z_NoRow.n
      obtain rfl : c_BadPaper = C_BadPaper := L2.ClsN.uniq n_BadPaper z_BadPaper
      obtain rfl : c_Falls = C_Falls := L2.ClsN.uniq n_Falls z_Falls
      obtain rfl : c_LandError = C_LandError := L2.ClsN.uniq n_LandError z_LandError.n
      exact ⟨a_NoRow, k_NoRow_LandError, t_NoRow_ValueError, k_NoRow_BadFloor, k_NoRow_BadCells, k_NoRow_BadFraction, k_NoRow_BadShares, k_NoRow_TooLittle, k_NoRow_TooFine, k_NoRow_BadPaper, k_NoRow_Falls, k_NoRow_Late, k_NoRow_Full, k_NoRow_OtherKnown, k_NoRow_NoText, k_NoRow_NoRow, k_NoRow_BadTerm, p_NoRow⟩
    obtain ⟨a_BadPaper, k_BadPaper_LandError, t_BadPaper_ValueError, k_BadPaper_BadFloor, k_BadPaper_BadCells, k_BadPaper_BadFraction, k_BadPaper_BadShares, k_BadPaper_TooLittle, k_BadPaper_TooFine, k_BadPaper_BadPaper, k_BadPaper_Falls, k_BadPaper_Late, k_BadPaper_Full, k_BadPaper_OtherKnown, k_BadPaper_NoText, k_BadPaper_NoRow, k_BadPaper_BadTerm⟩ : L2.ExcA (L2.KOf KX) C_BadPaper ∧ PySem.W.kitOne (L2.KOf KX) (.ref C_BadPaper) (.ref C_LandError) = some true ∧ PySem.W.kitOne (L2.KOf KX) (.ref C_BadPaper) (.type "ValueError") = some true ∧ PySem.W.kitOne (L2.KOf KX) (.ref C_BadPaper) (.ref C_BadFloor) = some false ∧ PySem.W.kitOne (L2.KOf KX) (.ref C_BadPaper) (.ref C_BadCells) = some false ∧ PySem.W.kitOne (L2.KOf KX) (.ref C_BadPaper) (.ref C_BadFraction) = some false ∧ PySem.W.kitOne (L2.KOf KX) (.ref C_BadPaper) (.ref C_BadShares) = some false ∧ PySem.W.kitOne (L2.KOf KX) (.ref C_BadPaper) (.ref C_TooLittle) = some false ∧ PySem.W.kitOne (L2.KOf KX) (.ref C_BadPaper) (.ref C_TooFine) = some false ∧ PySem.W.kitOne (L2.KOf KX) (.ref C_BadPaper) (.ref C_BadPaper) = some true ∧ PySem.W.kitOne (L2.KOf KX) (.ref C_BadPaper) (.ref C_Falls) = some false ∧ PySem.W.kitOne (L2.KOf KX) (.ref C_BadPaper) (.ref C_Late) = some false ∧ PySem.W.kitOne (L2.KOf KX) (.ref C_BadPaper) (.ref C_Full) = some false ∧ PySem.W.kitOne (L2.KOf KX) (.ref C_BadPaper) (.ref C_OtherKnown) = some false ∧ PySem.W.kitOne (L2.KOf KX) (.ref C_BadPaper) (.ref C_NoText) = some false ∧ PySem.W.kitOne (L2.KOf KX) (.ref C_BadPaper) (.ref C_NoRow) = some false ∧ PySem.W.kitOne (L2.KOf KX) (.ref C_BadPaper) (.ref C_BadTerm) = some false := by
      obtain ⟨c_BadFloor, c_BadTerm, c_BadCells, c_BadFraction, c_BadShares, c_TooLittle, c_TooFine, c_Late, c_Full, c_OtherKnown, c_NoText, c_NoRow, c_BadPaper, c_Falls, c_LandError, n_BadFloor, n_BadTerm, n_BadCells, n_BadFraction, n_BadShares, n_TooLittle, n_TooFine, n_Late, n_Full, n_OtherKnown, n_NoText, n_NoRow, n_BadPaper, n_Falls, n_LandError, a_BadPaper, k_BadPaper_LandError, t_BadPaper_ValueError, k_BadPaper_BadFloor, k_BadPaper_BadCells, k_BadPaper_BadFraction, k_BadPaper_BadShares, k_BadPaper_TooLittle, k_BadPaper_TooFine, k_BadPaper_BadPaper, k_BadPaper_Falls, k_BadPaper_Late, k_BadPaper_Full, k_BadPaper_OtherKnown, k_BadPaper_NoText, k_BadPaper_NoRow, k_BadPaper_BadTerm⟩ : ∃ c_BadFloor c_BadTerm c_BadCells c_BadFraction c_BadShares c_TooLittle c_TooFine c_Late c_Full c_OtherKnown c_NoText c_NoRow c_BadPaper c_Falls c_LandError, L2.ClsN mg "BadFloor" c_BadFloor ∧ L2.ClsN mg "BadTerm" c_BadTerm ∧ L2.ClsN mg "BadCells" c_BadCells ∧ L2.ClsN mg "BadFraction" c_BadFraction ∧ L2.ClsN mg "BadShares" c_BadShares ∧ L2.ClsN mg "TooLittle" c_TooLittle ∧ L2.ClsN mg "TooFine" c_TooFine ∧ L2.ClsN mg "Late" c_Late ∧ L2.ClsN mg "Full" c_Full ∧ L2.ClsN mg "OtherKnown" c_OtherKnown ∧ L2.ClsN mg "NoText" c_NoText ∧ L2.ClsN mg "NoRow" c_NoRow ∧ L2.ClsN mg "BadPaper" c_BadPaper ∧ L2.ClsN mg "Falls" c_Falls ∧ L2.ClsN mg "LandError" c_LandError ∧ L2.ExcA (L2.KOf KX) c_BadPaper ∧ PySem.W.kitOne (L2.KOf KX) (.ref c_BadPaper) (.ref c_LandError) = some true ∧ PySem.W.kitOne (L2.KOf KX) (.ref c_BadPaper) (.type "ValueError") = some true ∧ PySem.W.kitOne (L2.KOf KX) (.ref c_BadPaper) (.ref c_BadFloor) = some false ∧ PySem.W.kitOne (L2.KOf KX) (.ref c_BadPaper) (.ref c_BadCells) = some false ∧ PySem.W.kitOne (L2.KOf KX) (.ref c_BadPaper) (.ref c_BadFraction) = some false ∧ PySem.W.kitOne (L2.KOf KX) (.ref c_BadPaper) (.ref c_BadShares) = some false ∧ PySem.W.kitOne (L2.KOf KX) (.ref c_BadPaper) (.ref c_TooLittle) = some false ∧ PySem.W.kitOne (L2.KOf KX) (.ref c_BadPaper) (.ref c_TooFine) = some false ∧ PySem.W.kitOne (L2.KOf KX) (.ref c_BadPaper) (.ref c_BadPaper) = some true ∧ PySem.W.kitOne (L2.KOf KX) (.ref c_BadPaper) (.ref c_Falls) = some false ∧ PySem.W.kitOne (L2.KOf KX) (.ref c_BadPaper) (.ref c_Late) = some false ∧ PySem.W.kitOne (L2.KOf KX) (.ref c_BadPaper) (.ref c_Full) = some false ∧ PySem.W.kitOne (L2.KOf KX) (.ref c_BadPaper) (.ref c_OtherKnown) = some false ∧ PySem.W.kitOne (L2.KOf KX) (.ref c_BadPaper) (.ref c_NoText) = some false ∧ PySem.W.kitOne (L2.KOf KX) (.ref c_BadPaper) (.ref c_NoRow) = some false ∧ PySem.W.kitOne (L2.KOf KX) (.ref c_BadPaper) (.ref c_BadTerm) = some false := by
        dsimp only [L2.KOf]
        refine' ⟨_, _, _, _, _, _, _, _, _, _, _, _, _, _, _, L2.clsN_mk KX G ?n_BadFloora, L2.clsN_mk KX G ?n_BadTerma, L2.clsN_mk KX G ?n_BadCellsa, L2.clsN_mk KX G ?n_BadFractiona, L2.clsN_mk KX G ?n_BadSharesa, L2.clsN_mk KX G ?n_TooLittlea, L2.clsN_mk KX G ?n_TooFinea, L2.clsN_mk KX G ?n_Latea, L2.clsN_mk KX G ?n_Fulla, L2.clsN_mk KX G ?n_OtherKnowna, L2.clsN_mk KX G ?n_NoTexta, L2.clsN_mk KX G ?n_NoRowa, L2.clsN_mk KX G ?n_BadPapera, L2.clsN_mk KX G ?n_Fallsa, L2.clsN_mk KX G ?n_LandErrora, ⟨?a_BadPapera, ?a_BadPaperb, ?a_BadPaperc, ?a_BadPaperd, ?a_BadPapere⟩, ?k_BadPaper_LandError, ?t_BadPaper_ValueError, ?k_BadPaper_BadFloor, ?k_BadPaper_BadCells, ?k_BadPaper_BadFraction, ?k_BadPaper_BadShares, ?k_BadPaper_TooLittle, ?k_BadPaper_TooFine, ?k_BadPaper_BadPaper, ?k_BadPaper_Falls, ?k_BadPaper_Late, ?k_BadPaper_Full, ?k_BadPaper_OtherKnown, ?k_BadPaper_NoText, ?k_BadPaper_NoRow, ?k_BadPaper_BadTerm⟩
        (case n_BadFloora => k_is)
        (case n_BadTerma => k_is)
        (case n_BadCellsa => k_is)
        (case n_BadFractiona => k_is)
        (case n_BadSharesa => k_is)
        (case n_TooLittlea => k_is)
        (case n_TooFinea => k_is)
        (case n_Latea => k_is)
        (case n_Fulla => k_is)
        (case n_OtherKnowna => k_is)
        (case n_NoTexta => k_is)
        (case n_NoRowa => k_is)
        (case n_BadPapera => k_is)
        (case n_Fallsa => k_is)
        (case n_LandErrora => k_is)
        (case a_BadPapera => k_is)
        (case a_BadPaperb => k_is)
        (case a_BadPaperc => k_is)
        (case a_BadPaperd => k_is)
        (case a_BadPapere => k_is)
        (case k_BadPaper_LandError => kit_is)
        (case t_BadPaper_ValueError => kit_is)
        (case k_BadPaper_BadFloor => kit_is)
        (case k_BadPaper_BadCells => kit_is)
        (case k_BadPaper_BadFraction => kit_is)
        (case k_BadPaper_BadShares => kit_is)
        (case k_BadPaper_TooLittle => kit_is)
        (case k_BadPaper_TooFine => kit_is)
        (case k_BadPaper_BadPaper => kit_is)
        (case k_BadPaper_Falls => kit_is)
        (case k_BadPaper_Late => kit_is)
        (case k_BadPaper_Full => kit_is)
        (case k_BadPaper_OtherKnown => kit_is)
        (case k_BadPaper_NoText => kit_is)
        (case k_BadPaper_NoRow => kit_is)
        (case k_BadPaper_BadTerm => kit_is)
      obtain rfl : c_BadFloor = C_BadFloor := L2.ClsN.uniq n_BadFloor z_BadFloor.n
      obtain rfl : c_BadTerm = C_BadTerm := L2.ClsN.uniq n_BadTerm z_BadTerm.n
      obtain rfl : c_BadCells = C_BadCells := L2.ClsN.uniq n_BadCells z_BadCells.n
      obtain rfl : c_BadFraction = C_BadFraction := L2.ClsN.uniq n_BadFraction z_BadFraction.n
      obtain rfl : c_BadShares = C_BadShares := L2.ClsN.uniq n_BadShares z_BadShares.n
      obtain rfl : c_TooLittle = C_TooLittle := L2.ClsN.uniq n_TooLittle z_TooLittle.n
      obtain rfl : c_TooFine = C_TooFine := L2.ClsN.uniq n_TooFine z_TooFine.n
      obtain rfl : c_Late = C_Late := L2.ClsN.uniq n_Late z_Late.n
      obtain rfl : c_Full = C_Full := L2.ClsN.uniq n_Full z_Full.n
      obtain rfl : c_OtherKnown = C_OtherKnown := L2.ClsN.uniq n_OtherKnown z_OtherKnown.n
      obtain rfl : c_NoText = C_NoText := L2.ClsN.uniq n_NoText z_NoText.n
      obtain rfl : c_NoRow = C_NoRow := L2.ClsN.uniq n_NoRow z_NoRow.n
      obtain rfl : c_BadPaper = C_BadPaper := L2.ClsN.uniq n_BadPaper z_BadPaper
      obtain rfl : c_Falls = C_Falls := L2.ClsN.uniq n_Falls z_Falls
      obtain rfl : c_LandError = C_LandError := L2.ClsN.uniq n_LandError z_LandError.n
      exact ⟨a_BadPaper, k_BadPaper_LandError, t_BadPaper_ValueError, k_BadPaper_BadFloor, k_BadPaper_BadCells, k_BadPaper_BadFraction, k_BadPaper_BadShares, k_BadPaper_TooLittle, k_BadPaper_TooFine, k_BadPaper_BadPaper, k_BadPaper_Falls, k_BadPaper_Late, k_BadPaper_Full, k_BadPaper_OtherKnown, k_BadPaper_NoText, k_BadPaper_NoRow, k_BadPaper_BadTerm⟩
    obtain ⟨a_Falls, k_Falls_LandError, t_Falls_ValueError, k_Falls_BadFloor, k_Falls_BadCells, k_Falls_BadFraction, k_Falls_BadShares, k_Falls_TooLittle, k_Falls_TooFine, k_Falls_BadPaper, k_Falls_Falls, k_Falls_Late, k_Falls_Full, k_Falls_OtherKnown, k_Falls_NoText, k_Falls_NoRow, k_Falls_BadTerm⟩ : L2.ExcA (L2.KOf KX) C_Falls ∧ PySem.W.kitOne (L2.KOf KX) (.ref C_Falls) (.ref C_LandError) = some true ∧ PySem.W.kitOne (L2.KOf KX) (.ref C_Falls) (.type "ValueError") = some true ∧ PySem.W.kitOne (L2.KOf KX) (.ref C_Falls) (.ref C_BadFloor) = some false ∧ PySem.W.kitOne (L2.KOf KX) (.ref C_Falls) (.ref C_BadCells) = some false ∧ PySem.W.kitOne (L2.KOf KX) (.ref C_Falls) (.ref C_BadFraction) = some false ∧ PySem.W.kitOne (L2.KOf KX) (.ref C_Falls) (.ref C_BadShares) = some false ∧ PySem.W.kitOne (L2.KOf KX) (.ref C_Falls) (.ref C_TooLittle) = some false ∧ PySem.W.kitOne (L2.KOf KX) (.ref C_Falls) (.ref C_TooFine) = some false ∧ PySem.W.kitOne (L2.KOf KX) (.ref C_Falls) (.ref C_BadPaper) = some false ∧ PySem.W.kitOne (L2.KOf KX) (.ref C_Falls) (.ref C_Falls) = some true ∧ PySem.W.kitOne (L2.KOf KX) (.ref C_Falls) (.ref C_Late) = some false ∧ PySem.W.kitOne (L2.KOf KX) (.ref C_Falls) (.ref C_Full) = some false ∧ PySem.W.kitOne (L2.KOf KX) (.ref C_Falls) (.ref C_OtherKnown) = some false ∧ PySem.W.kitOne (L2.KOf KX) (.ref C_Falls) (.ref C_NoText) = some false ∧ PySem.W.kitOne (L2.KOf KX) (.ref C_Falls) (.ref C_NoRow) = some false ∧ PySem.W.kitOne (L2.KOf KX) (.ref C_Falls) (.ref C_BadTerm) = some false := by
      obtain ⟨c_BadFloor, c_BadTerm, c_BadCells, c_BadFraction, c_BadShares, c_TooLittle, c_TooFine, c_Late, c_Full, c_OtherKnown, c_NoText, c_NoRow, c_BadPaper, c_Falls, c_LandError, n_BadFloor, n_BadTerm, n_BadCells, n_BadFraction, n_BadShares, n_TooLittle, n_TooFine, n_Late, n_Full, n_OtherKnown, n_NoText, n_NoRow, n_BadPaper, n_Falls, n_LandError, a_Falls, k_Falls_LandError, t_Falls_ValueError, k_Falls_BadFloor, k_Falls_BadCells, k_Falls_BadFraction, k_Falls_BadShares, k_Falls_TooLittle, k_Falls_TooFine, k_Falls_BadPaper, k_Falls_Falls, k_Falls_Late, k_Falls_Full, k_Falls_OtherKnown, k_Falls_NoText, k_Falls_NoRow, k_Falls_BadTerm⟩ : ∃ c_BadFloor c_BadTerm c_BadCells c_BadFraction c_BadShares c_TooLittle c_TooFine c_Late c_Full c_OtherKnown c_NoText c_NoRow c_BadPaper c_Falls c_LandError, L2.ClsN mg "BadFloor" c_BadFloor ∧ L2.ClsN mg "BadTerm" c_BadTerm ∧ L2.ClsN mg "BadCells" c_BadCells ∧ L2.ClsN mg "BadFraction" c_BadFraction ∧ L2.ClsN mg "BadShares" c_BadShares ∧ L2.ClsN mg "TooLittle" c_TooLittle ∧ L2.ClsN mg "TooFine" c_TooFine ∧ L2.ClsN mg "Late" c_Late ∧ L2.ClsN mg "Full" c_Full ∧ L2.ClsN mg "OtherKnown" c_OtherKnown ∧ L2.ClsN mg "NoText" c_NoText ∧ L2.ClsN mg "NoRow" c_NoRow ∧ L2.ClsN mg "BadPaper" c_BadPaper ∧ L2.ClsN mg "Falls" c_Falls ∧ L2.ClsN mg "LandError" c_LandError ∧ L2.ExcA (L2.KOf KX) c_Falls ∧ PySem.W.kitOne (L2.KOf KX) (.ref c_Falls) (.ref c_LandError) = some true ∧ PySem.W.kitOne (L2.KOf KX) (.ref c_Falls) (.type "ValueError") = some true ∧ PySem.W.kitOne (L2.KOf KX) (.ref c_Falls) (.ref c_BadFloor) = some false ∧ PySem.W.kitOne (L2.KOf KX) (.ref c_Falls) (.ref c_BadCells) = some false ∧ PySem.W.kitOne (L2.KOf KX) (.ref c_Falls) (.ref c_BadFraction) = some false ∧ PySem.W.kitOne (L2.KOf KX) (.ref c_Falls) (.ref c_BadShares) = some false ∧ PySem.W.kitOne (L2.KOf KX) (.ref c_Falls) (.ref c_TooLittle) = some false ∧ PySem.W.kitOne (L2.KOf KX) (.ref c_Falls) (.ref c_TooFine) = some false ∧ PySem.W.kitOne (L2.KOf KX) (.ref c_Falls) (.ref c_BadPaper) = some false ∧ PySem.W.kitOne (L2.KOf KX) (.ref c_Falls) (.ref c_Falls) = some true ∧ PySem.W.kitOne (L2.KOf KX) (.ref c_Falls) (.ref c_Late) = some false ∧ PySem.W.kitOne (L2.KOf KX) (.ref c_Falls) (.ref c_Full) = some false ∧ PySem.W.kitOne (L2.KOf KX) (.ref c_Falls) (.ref c_OtherKnown) = some false ∧ PySem.W.kitOne (L2.KOf KX) (.ref c_Falls) (.ref c_NoText) = some false ∧ PySem.W.kitOne (L2.KOf KX) (.ref c_Falls) (.ref c_NoRow) = some false ∧ PySem.W.kitOne (L2.KOf KX) (.ref c_Falls) (.ref c_BadTerm) = some false := by
        dsimp only [L2.KOf]
        refine' ⟨_, _, _, _, _, _, _, _, _, _, _, _, _, _, _, L2.clsN_mk KX G ?n_BadFloora, L2.clsN_mk KX G ?n_BadTerma, L2.clsN_mk KX G ?n_BadCellsa, L2.clsN_mk KX G ?n_BadFractiona, L2.clsN_mk KX G ?n_BadSharesa, L2.clsN_mk KX G ?n_TooLittlea, L2.clsN_mk KX G ?n_TooFinea, L2.clsN_mk KX G ?n_Latea, L2.clsN_mk KX G ?n_Fulla, L2.clsN_mk KX G ?n_OtherKnowna, L2.clsN_mk KX G ?n_NoTexta, L2.clsN_mk KX G ?n_NoRowa, L2.clsN_mk KX G ?n_BadPapera, L2.clsN_mk KX G ?n_Fallsa, L2.clsN_mk KX G ?n_LandErrora, ⟨?a_Fallsa, ?a_Fallsb, ?a_Fallsc, ?a_Fallsd, ?a_Fallse⟩, ?k_Falls_LandError, ?t_Falls_ValueError, ?k_Falls_BadFloor, ?k_Falls_BadCells, ?k_Falls_BadFraction, ?k_Falls_BadShares, ?k_Falls_TooLittle, ?k_Falls_TooFine, ?k_Falls_BadPaper, ?k_Falls_Falls, ?k_Falls_Late, ?k_Falls_Full, ?k_Falls_OtherKnown, ?k_Falls_NoText, ?k_Falls_NoRow, ?k_Falls_BadTerm⟩
        (case n_BadFloora => k_is)
        (case n_BadTerma => k_is)
        (case n_BadCellsa => k_is)
        (case n_BadFractiona => k_is)
        (case n_BadSharesa => k_is)
        (case n_TooLittlea => k_is)
        (case n_TooFinea => k_is)
        (case n_Latea => k_is)
        (case n_Fulla => k_is)
        (case n_OtherKnowna => k_is)
        (case n_NoTexta => k_is)
        (case n_NoRowa => k_is)
        (case n_BadPapera => k_is)
        (case n_Fallsa => k_is)
        (case n_LandErrora => k_is)
        (case a_Fallsa => k_is)
        (case a_Fallsb => k_is)
        (case a_Fallsc => k_is)
        (case a_Fallsd => k_is)
        (case a_Fallse => k_is)
        (case k_Falls_LandError => kit_is)
        (case t_Falls_ValueError => kit_is)
        (case k_Falls_BadFloor => kit_is)
        (case k_Falls_BadCells => kit_is)
        (case k_Falls_BadFraction => kit_is)
        (case k_Falls_BadShares => kit_is)
        (case k_Falls_TooLittle => kit_is)
        (case k_Falls_TooFine => kit_is)
        (case k_Falls_BadPaper => kit_is)
        (case k_Falls_Falls => kit_is)
        (case k_Falls_Late => kit_is)
        (case k_Falls_Full => kit_is)
        (case k_Falls_OtherKnown => kit_is)
        (case k_Falls_NoText => kit_is)
        (case k_Falls_NoRow => kit_is)
        (case k_Falls_BadTerm => kit_is)
      obtain rfl : c_BadFloor = C_BadFloor := L2.ClsN.uniq n_BadFloor z_BadFloor.n
      obtain rfl : c_BadTerm = C_BadTerm := L2.ClsN.uniq n_BadTerm z_BadTerm.n
      obtain rfl : c_BadCells = C_BadCells := L2.ClsN.uniq n_BadCells z_BadCells.n
      obtain rfl : c_BadFraction = C_BadFraction := L2.ClsN.uniq n_BadFraction z_BadFraction.n
      obtain rfl : c_BadShares = C_BadShares := L2.ClsN.uniq n_BadShares z_BadShares.n
      obtain rfl : c_TooLittle = C_TooLittle := L2.ClsN.uniq n_TooLittle z_TooLittle.n
      obtain rfl : c_TooFine = C_TooFine := L2.ClsN.uniq n_TooFine z_TooFine.n
      obtain rfl : c_Late = C_Late := L2.ClsN.uniq n_Late z_Late.n
      obtain rfl : c_Full = C_Full := L2.ClsN.uniq n_Full z_Full.n
      obtain rfl : c_OtherKnown = C_OtherKnown := L2.ClsN.uniq n_OtherKnown z_OtherKnown.n
      obtain rfl : c_NoText = C_NoText := L2.ClsN.uniq n_NoText z_NoText.n
      obtain rfl : c_NoRow = C_NoRow := L2.ClsN.uniq n_NoRow z_NoRow.n
      obtain rfl : c_BadPaper = C_BadPaper := L2.ClsN.uniq n_BadPaper z_BadPaper
      obtain rfl : c_Falls = C_Falls := L2.ClsN.uniq n_Falls z_Falls
      obtain rfl : c_LandError = C_LandError := L2.ClsN.uniq n_LandError z_LandError.n
      exact ⟨a_Falls, k_Falls_LandError, t_Falls_ValueError, k_Falls_BadFloor, k_Falls_BadCells, k_Falls_BadFraction, k_Falls_BadShares, k_Falls_TooLittle, k_Falls_TooFine, k_Falls_BadPaper, k_Falls_Falls, k_Falls_Late, k_Falls_Full, k_Falls_OtherKnown, k_Falls_NoText, k_Falls_NoRow, k_Falls_BadTerm⟩
    have X_BadPaper := My.okI_BadPaper (P := PySem.Challenge.rw_landroll_k01_no_floor_no_cells.prog) (w := w) (base := base) x_BadPaper l_LandError w_BadPaper_place
    have X_Falls := My.okI_Falls (P := PySem.Challenge.rw_landroll_k01_no_floor_no_cells.prog) (w := w) (base := base) x_Falls l_LandError w_Falls_word w_Falls_who
    have d_is_number := My.ok_is_number (P := PySem.Challenge.rw_landroll_k01_no_floor_no_cells.prog) (w := w) (base := base) t_is_number B
    have d_law_cell_at := My.ok_law_cell_at (P := PySem.Challenge.rw_landroll_k01_no_floor_no_cells.prog) (w := w) (base := base) t_law_cell_at B
    have d_law_whole := My.ok_law_whole (P := PySem.Challenge.rw_landroll_k01_no_floor_no_cells.prog) (w := w) (base := base) t_law_whole B
    have d_law_thing := My.ok_law_thing (P := PySem.Challenge.rw_landroll_k01_no_floor_no_cells.prog) (w := w) (base := base) t_law_thing B
    have m_law_kinds := My.ok_law_kinds (P := PySem.Challenge.rw_landroll_k01_no_floor_no_cells.prog) (w := w) (base := base) t_law_kinds B z_BadFloor z_BadTerm z_BadCells z_BadFraction z_BadShares z_TooLittle z_TooFine z_Late z_Full z_OtherKnown z_NoText z_NoRow z_BadPaper z_Falls
    have d_is_length := My.ok_is_length (P := PySem.Challenge.rw_landroll_k01_no_floor_no_cells.prog) (w := w) (base := base) t_is_length B d_is_number g_SIDE
    have d_is_cell := My.ok_is_cell (P := PySem.Challenge.rw_landroll_k01_no_floor_no_cells.prog) (w := w) (base := base) t_is_cell B d_is_number g_SIDE
    have e_floor_of := My.ok_floor_of (P := PySem.Challenge.rw_landroll_k01_no_floor_no_cells.prog) (w := w) (base := base) t_floor_of B d_is_length z_BadFloor
    have e_cells_of := My.ok_cells_of (P := PySem.Challenge.rw_landroll_k01_no_floor_no_cells.prog) (w := w) (base := base) t_cells_of B d_is_cell z_BadCells
    have d_law_fields := My.ok_law_fields (P := PySem.Challenge.rw_landroll_k01_no_floor_no_cells.prog) (w := w) (base := base) t_law_fields B d_law_whole X_BadPaper X_Falls z_BadPaper z_Falls r_BadPaper_place r_Falls_word r_Falls_who
    have d_law_classes := My.ok_law_classes (P := PySem.Challenge.rw_landroll_k01_no_floor_no_cells.prog) (w := w) (base := base) t_law_classes B m_law_kinds X_BadPaper X_Falls b_ValueError z_LandError z_BadFloor z_BadTerm z_BadCells z_BadFraction z_BadShares z_TooLittle z_TooFine z_Late z_Full z_OtherKnown z_NoText z_NoRow z_BadPaper z_Falls a_BadFloor k_BadFloor_LandError t_BadFloor_ValueError k_BadFloor_BadFloor k_BadFloor_BadCells k_BadFloor_BadFraction k_BadFloor_BadShares k_BadFloor_TooLittle k_BadFloor_TooFine k_BadFloor_BadPaper k_BadFloor_Falls k_BadFloor_Late k_BadFloor_Full k_BadFloor_OtherKnown k_BadFloor_NoText k_BadFloor_NoRow k_BadFloor_BadTerm p_BadFloor a_BadCells k_BadCells_LandError t_BadCells_ValueError k_BadCells_BadFloor k_BadCells_BadCells k_BadCells_BadFraction k_BadCells_BadShares k_BadCells_TooLittle k_BadCells_TooFine k_BadCells_BadPaper k_BadCells_Falls k_BadCells_Late k_BadCells_Full k_BadCells_OtherKnown k_BadCells_NoText k_BadCells_NoRow k_BadCells_BadTerm p_BadCells a_BadFraction k_BadFraction_LandError t_BadFraction_ValueError k_BadFraction_BadFloor k_BadFraction_BadCells k_BadFraction_BadFraction k_BadFraction_BadShares k_BadFraction_TooLittle k_BadFraction_TooFine k_BadFraction_BadPaper k_BadFraction_Falls k_BadFraction_Late k_BadFraction_Full k_BadFraction_OtherKnown k_BadFraction_NoText k_BadFraction_NoRow k_BadFraction_BadTerm p_BadFraction a_BadShares k_BadShares_LandError t_BadShares_ValueError k_BadShares_BadFloor k_BadShares_BadCells k_BadShares_BadFraction k_BadShares_BadShares k_BadShares_TooLittle k_BadShares_TooFine k_BadShares_BadPaper k_BadShares_Falls k_BadShares_Late k_BadShares_Full k_BadShares_OtherKnown k_BadShares_NoText k_BadShares_NoRow k_BadShares_BadTerm p_BadShares a_TooLittle k_TooLittle_LandError t_TooLittle_ValueError k_TooLittle_BadFloor k_TooLittle_BadCells k_TooLittle_BadFraction k_TooLittle_BadShares k_TooLittle_TooLittle k_TooLittle_TooFine k_TooLittle_BadPaper k_TooLittle_Falls k_TooLittle_Late k_TooLittle_Full k_TooLittle_OtherKnown k_TooLittle_NoText k_TooLittle_NoRow k_TooLittle_BadTerm p_TooLittle a_TooFine k_TooFine_LandError t_TooFine_ValueError k_TooFine_BadFloor k_TooFine_BadCells k_TooFine_BadFraction k_TooFine_BadShares k_TooFine_TooLittle k_TooFine_TooFine k_TooFine_BadPaper k_TooFine_Falls k_TooFine_Late k_TooFine_Full k_TooFine_OtherKnown k_TooFine_NoText k_TooFine_NoRow k_TooFine_BadTerm p_TooFine a_BadPaper k_BadPaper_LandError t_BadPaper_ValueError k_BadPaper_BadFloor k_BadPaper_BadCells k_BadPaper_BadFraction k_BadPaper_BadShares k_BadPaper_TooLittle k_BadPaper_TooFine k_BadPaper_BadPaper k_BadPaper_Falls k_BadPaper_Late k_BadPaper_Full k_BadPaper_OtherKnown k_BadPaper_NoText k_BadPaper_NoRow k_BadPaper_BadTerm a_Falls k_Falls_LandError t_Falls_ValueError k_Falls_BadFloor k_Falls_BadCells k_Falls_BadFraction k_Falls_BadShares k_Falls_TooLittle k_Falls_TooFine k_Falls_BadPaper k_Falls_Falls k_Falls_Late k_Falls_Full k_Falls_OtherKnown k_Falls_NoText k_Falls_NoRow k_Falls_BadTerm a_Late k_Late_LandError t_Late_ValueError k_Late_BadFloor k_Late_BadCells k_Late_BadFraction k_Late_BadShares k_Late_TooLittle k_Late_TooFine k_Late_BadPaper k_Late_Falls k_Late_Late k_Late_Full k_Late_OtherKnown k_Late_NoText k_Late_NoRow k_Late_BadTerm p_Late a_Full k_Full_LandError t_Full_ValueError k_Full_BadFloor k_Full_BadCells k_Full_BadFraction k_Full_BadShares k_Full_TooLittle k_Full_TooFine k_Full_BadPaper k_Full_Falls k_Full_Late k_Full_Full k_Full_OtherKnown k_Full_NoText k_Full_NoRow k_Full_BadTerm p_Full a_OtherKnown k_OtherKnown_LandError t_OtherKnown_ValueError k_OtherKnown_BadFloor k_OtherKnown_BadCells k_OtherKnown_BadFraction k_OtherKnown_BadShares k_OtherKnown_TooLittle k_OtherKnown_TooFine k_OtherKnown_BadPaper k_OtherKnown_Falls k_OtherKnown_Late k_OtherKnown_Full k_OtherKnown_OtherKnown k_OtherKnown_NoText k_OtherKnown_NoRow k_OtherKnown_BadTerm p_OtherKnown a_NoText k_NoText_LandError t_NoText_ValueError k_NoText_BadFloor k_NoText_BadCells k_NoText_BadFraction k_NoText_BadShares k_NoText_TooLittle k_NoText_TooFine k_NoText_BadPaper k_NoText_Falls k_NoText_Late k_NoText_Full k_NoText_OtherKnown k_NoText_NoText k_NoText_NoRow k_NoText_BadTerm p_NoText a_NoRow k_NoRow_LandError t_NoRow_ValueError k_NoRow_BadFloor k_NoRow_BadCells k_NoRow_BadFraction k_NoRow_BadShares k_NoRow_TooLittle k_NoRow_TooFine k_NoRow_BadPaper k_NoRow_Falls k_NoRow_Late k_NoRow_Full k_NoRow_OtherKnown k_NoRow_NoText k_NoRow_NoRow k_NoRow_BadTerm p_NoRow a_BadTerm k_BadTerm_LandError t_BadTerm_ValueError k_BadTerm_BadFloor k_BadTerm_BadCells k_BadTerm_BadFraction k_BadTerm_BadShares k_BadTerm_TooLittle k_BadTerm_TooFine k_BadTerm_BadPaper k_BadTerm_Falls k_BadTerm_Late k_BadTerm_Full k_BadTerm_OtherKnown k_BadTerm_NoText k_BadTerm_NoRow k_BadTerm_BadTerm p_BadTerm
    have d_law_floor := My.ok_law_floor (P := PySem.Challenge.rw_landroll_k01_no_floor_no_cells.prog) (w := w) (base := base) t_law_floor B e_floor_of z_BadFloor m_BadFloor_BadFloor
    have d_law_floor_by_any := My.ok_law_floor_by_any (P := PySem.Challenge.rw_landroll_k01_no_floor_no_cells.prog) (w := w) (base := base) t_law_floor_by_any B e_floor_of m_law_kinds z_LandError z_BadFloor z_BadTerm z_BadCells z_BadFraction z_BadShares z_TooLittle z_TooFine z_Late z_Full z_OtherKnown z_NoText z_NoRow z_BadPaper z_Falls a_BadFloor m_BadFloor_LandError k_BadFloor_BadFloor k_BadFloor_BadCells k_BadFloor_BadFraction k_BadFloor_BadShares k_BadFloor_TooLittle k_BadFloor_TooFine k_BadFloor_BadPaper k_BadFloor_Falls k_BadFloor_Late k_BadFloor_Full k_BadFloor_OtherKnown k_BadFloor_NoText k_BadFloor_NoRow k_BadFloor_BadTerm
    have d_law_cells := My.ok_law_cells (P := PySem.Challenge.rw_landroll_k01_no_floor_no_cells.prog) (w := w) (base := base) t_law_cells B e_cells_of z_BadCells m_BadCells_BadCells
    have d_law_cells_by_any := My.ok_law_cells_by_any (P := PySem.Challenge.rw_landroll_k01_no_floor_no_cells.prog) (w := w) (base := base) t_law_cells_by_any B e_cells_of m_law_kinds z_LandError z_BadFloor z_BadTerm z_BadCells z_BadFraction z_BadShares z_TooLittle z_TooFine z_Late z_Full z_OtherKnown z_NoText z_NoRow z_BadPaper z_Falls a_BadCells m_BadCells_LandError k_BadCells_BadFloor k_BadCells_BadCells k_BadCells_BadFraction k_BadCells_BadShares k_BadCells_TooLittle k_BadCells_TooFine k_BadCells_BadPaper k_BadCells_Falls k_BadCells_Late k_BadCells_Full k_BadCells_OtherKnown k_BadCells_NoText k_BadCells_NoRow k_BadCells_BadTerm
    exact My.ok_law F B d_law_thing d_law_floor d_law_floor_by_any d_law_cells d_law_cells_by_any d_law_cell_at d_is_number d_law_whole d_law_classes d_law_fields g_SIDE
  case S => exact fun K H a ns hl hO hS => ⟨a, ns, rfl, hS, hl, fun _ => rfl⟩
  case C => exact fun _ _ _ _ h => h
#print axioms PySem.Challenge.cw_landroll_k01_no_floor_no_cells_holds
