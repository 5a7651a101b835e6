import PyProof.Rows.All
import Wide.All
import OpenK.AllK
import Wide.FinOn
import Lean
import PyProof.EqAt
import PyProof.EqKinds
import PyProof.TupleCall
-- CHANGE: your row's module here, as the last of these rows
import PySem.Challenge.RW_landroll_k27_whole_row_of_deeds
set_option Elab.async false
set_option linter.all false
set_option maxRecDepth 100000
/-! THE HAND LAYER, for ints, bools, texts, own classes, LISTS and tuples (index, slices, in, append, pop ..), calls, loops. Paste it whole ahead of your own text; what your proof does not reach may be deleted. -/
namespace L2
open PySem PySem.Spec PyProof.Rows

/-- a key: an int or a str -/
noncomputable abbrev Key := Sum Int Str
noncomputable def keyIs : Key → Value → Bool
  | .inl k, v => Value.isInt k v
  | .inr x, v => Value.isStrOf x v
noncomputable def keyH (w : World) : Key → Int
  | .inl k => hashInt k
  | .inr x => hashStr w x
theorem keyIs_shape : ∀ {k : Key} {v : Value}, keyIs k v = true → (∃ i t, k = Sum.inl i ∧ v = Value.int i t) ∨ (∃ x t, k = Sum.inr x ∧ v = Value.str x t)
  | .inl i, v, h => by
    obtain ⟨t, e⟩ := Value.isInt_shape (k := i) (v := v) h
    exact .inl ⟨i, t, rfl, e⟩
  | .inr x, v, h => by
    obtain ⟨t, e⟩ := Value.isStrOf_shape (x := x) (v := v) h
    exact .inr ⟨x, t, rfl, e⟩
theorem keyIs_int (i : Int) (t : Tok) : keyIs (.inl i) (.int i t) = true := by simp [keyIs, Value.isInt]
theorem keyIs_str (x : Str) (t : Tok) : keyIs (.inr x) (.str x t) = true := by simp [keyIs, Value.isStrOf]
theorem key_ll (a b : Int) : decide ((Sum.inl a : Key) = Sum.inl b) = (a == b) := by
  by_cases e : a = b
  · subst e; simp
  · have h : ¬ (Sum.inl a : Key) = Sum.inl b := fun q => e (Sum.inl.inj q)
    rw [decide_eq_false h]
    exact (beq_eq_false_iff_ne.mpr e).symm
theorem key_rr (a b : Str) : decide ((Sum.inr a : Key) = Sum.inr b) = decide (a = b) := by
  by_cases e : a = b
  · subst e; simp
  · have h : ¬ (Sum.inr a : Key) = Sum.inr b := fun q => e (Sum.inr.inj q)
    rw [decide_eq_false h, decide_eq_false e]
theorem key_lr (a : Int) (b : Str) : decide ((Sum.inl a : Key) = Sum.inr b) = false := decide_eq_false (fun q => nomatch q)
theorem key_rl (a : Str) (b : Int) : decide ((Sum.inr a : Key) = Sum.inl b) = false := decide_eq_false (fun q => nomatch q)

noncomputable def mixKind (prog : Program) (w : World) : PySem.KeyKind prog w Key where
  is := keyIs
  hash := keyH w
  inj := fun v a b ha hb => by
    rcases keyIs_shape ha with ⟨i, t, rfl, rfl⟩ | ⟨x, t, rfl, rfl⟩
    · rcases keyIs_shape hb with ⟨j, u, rfl, e⟩ | ⟨y, u, rfl, e⟩
      · injection e with e1 _; rw [e1]
      · exact nomatch e
    · rcases keyIs_shape hb with ⟨j, u, rfl, e⟩ | ⟨y, u, rfl, e⟩
      · exact nomatch e
      · injection e with e1 _; rw [e1]
  byValue := fun k v h => by
    rcases keyIs_shape h with ⟨i, t, rfl, rfl⟩ | ⟨x, t, rfl, rfl⟩ <;> rfl
  pyHash := fun hv h => by
    rcases keyIs_shape hv with ⟨i, t, rfl, rfl⟩ | ⟨x, t, rfl, rfl⟩
    · exact wpAny_pyHash_int h
    · exact wpAny_pyHash_str h
  eqBool := fun hu hv h => by
    rcases keyIs_shape hu with ⟨i, t, rfl, rfl⟩ | ⟨x, t, rfl, rfl⟩
    · rcases keyIs_shape hv with ⟨j, u, rfl, rfl⟩ | ⟨y, u, rfl, rfl⟩
      · rw [key_ll] at h; exact wpAny_eqBool_int h
      · rw [key_lr] at h; exact SeqAt.EqAt.int_str i t y u _ _ _ _ h
    · rcases keyIs_shape hv with ⟨j, u, rfl, rfl⟩ | ⟨y, u, rfl, rfl⟩
      · rw [key_rl] at h; exact SeqAt.EqAt.str_int x t j u _ _ _ _ h
      · rw [key_rr] at h; exact wpAny_eqBool_str h
  «strs» := fun k x t v h => by
    rcases keyIs_shape h with ⟨i, u, rfl, e⟩ | ⟨y, u, rfl, e⟩
    · exact nomatch e
    · injection e with e1 _
      subst e1
      cases v <;> rfl

theorem mixKind_int (prog : Program) (w : World) (i : Int) (t : Tok) : (mixKind prog w).is (.inl i) (.int i t) = true := keyIs_int i t
theorem mixKind_str (prog : Program) (w : World) (x : Str) (t : Tok) : (mixKind prog w).is (.inr x) (.str x t) = true := keyIs_str x t
end L2

namespace L2
open PySem PySem.Spec PyProof.Rows

/-- a value, without the heap -/
inductive V where
  | non | bl (b : Bool) | int (i : Int) | str (x : Str) | byt (b : Array UInt8) | flt (b : UInt64) | ref (a : Addr) | ty (n : String)
  deriving DecidableEq

noncomputable def RelV : V → Value → Prop
  | .non, u => u = Value.none
  | .bl b, u => u = Value.bool b
  | .int i, u => ∃ t, u = Value.int i t
  | .str x, u => ∃ t, u = Value.str x t
  | .byt b, u => ∃ t, u = Value.bytes b t
  | .flt b, u => ∃ t, u = Value.float b t
  | .ref a, u => u = Value.ref a
  | .ty n, u => u = Value.type n

noncomputable abbrev Vals : List V → List Value → Prop := Paired RelV
theorem Vals.length {xs : List V} {us : List Value} (r : Vals xs us) : xs.length = us.length := Paired.length r
theorem Vals.get : ∀ {xs : List V} {us : List Value} {i : Nat} {x : V}, Vals xs us → xs[i]? = some x → ∃ u, us[i]? = some u ∧ RelV x u
  | _, _, _, _, .nil, e => by simp at e
  | _, _, 0, _, .cons r _, e => by simp at e; subst e; exact ⟨_, rfl, r⟩
  | _, _, i + 1, x, .cons _ t, e => by
    obtain ⟨u, h1, h2⟩ := Vals.get (i := i) (x := x) t (by simpa using e)
    exact ⟨u, by simpa using h1, h2⟩
theorem Vals.append : ∀ {xs ys : List V} {us ws : List Value}, Vals xs us → Vals ys ws → Vals (xs ++ ys) (us ++ ws)
  | _, _, _, _, .nil, s => s
  | _, _, _, _, .cons r t, s => .cons r (Vals.append t s)
theorem Vals.take : ∀ {xs : List V} {us : List Value} (n : Nat), Vals xs us → Vals (xs.take n) (us.take n)
  | _, _, 0, _ => .nil
  | _, _, _ + 1, .nil => .nil
  | _, _, n + 1, .cons r t => .cons r (Vals.take n t)
theorem Vals.drop : ∀ {xs : List V} {us : List Value} (n : Nat), Vals xs us → Vals (xs.drop n) (us.drop n)
  | _, _, 0, r => r
  | _, _, _ + 1, .nil => .nil
  | _, _, n + 1, .cons _ t => Vals.drop n t
noncomputable def RelO : Option V → Option Value → Prop
  | some v, some u => RelV v u
  | none, none => True
  | _, _ => False
noncomputable def KV {κ : Type} : List (κ × V) → List (κ × Value) → Prop := Paired fun (p : κ × V) (q : κ × Value) => p.1 = q.1 ∧ RelV p.2 q.2

/-- a key of a dict (00_mix): an int or a text -/
noncomputable def kV : Key → V
  | .inl i => .int i
  | .inr x => .str x

/-- what stands at a tracked address -/
inductive HO where
  /-- a list -/
  | lst (xs : List V)
  /-- a tuple (never changes) -/
  | tup (xs : List V)
  /-- a dict whose keys are ints and texts; one whose keys are tuples of ints and texts (the empty one is both) -/
  | dK (kvs : List (Key × V)) | dT (kvs : List (List Key × V))
  /-- a set of ints: its members, its size -/
  | set (S : Int → Bool) (n : Nat)
  /-- an instance of the class at C, its dict at dx, its attributes -/
  | ins (C dx : Addr) (fs : List (Str × V))
  /-- the dict of the instance at x -/
  | own (x : Addr)
  /-- the dict of an exception -/
  | xd (fs : List (Str × V))
  /-- a bound method, f of x -/
  | met (f x : Addr)
  /-- a range object lo, lo + 1, .. below hi -/
  | rng (lo hi : Int)
  /-- a thing that is known to the object (the script; a dict while a loop walks it): read, never written while it is so -/
  | frz (o : Obj) (u : HO)
  /-- a code object's table -/
  | tbl (ps : Array Value)
  /-- any other thing, by what is true of its one object (a def of one's own: SetO a S n := HO.ext fun h => ..) -/
  | ext (φ : Heap → Prop)

noncomputable abbrev Hp := Addr → Option HO
noncomputable def upd (H : Hp) (a : Addr) (o : HO) : Hp := fun b => if b = a then some o else H b
theorem upd_same {H : Hp} {a : Addr} {o : HO} : upd H a o a = some o := by unfold upd; rw [if_pos rfl]
theorem upd_ne {H : Hp} {a b : Addr} {o : HO} (h : b ≠ a) : upd H a o b = H b := by unfold upd; rw [if_neg h]
theorem upd_upd {H : Hp} {a : Addr} {o u : HO} : upd (upd H a o) a u = upd H a u := by
  funext b; unfold upd; split <;> rfl
/-- two objects of different content stand apart -/
theorem ne_of {H : Hp} {a b : Addr} {o u : HO} (h : H a = some o) (h' : H b = some u) (d : o ≠ u) : a ≠ b := by
  intro e; subst e; rw [h] at h'; exact d (Option.some.inj h')
theorem ne_of_none {H : Hp} {a b : Addr} {o : HO} (h : H a = some o) (h' : H b = none) : a ≠ b := by
  intro e; subst e; rw [h] at h'; cases h'

section
variable (P : Program) (w : World)
noncomputable def ObjOk (H : Hp) (h : Heap) (a : Addr) : HO → Prop
  | .lst xs => xs.length ≤ sizeLine ∧ ∃ (its : List Value) (n : Nat), Vals xs its ∧ h.get? a = some { cls := .type "list", data := .seq its.toArray n }
  | .tup xs => xs.length ≤ sizeLine ∧ ∃ its : List Value, Vals xs its ∧ IsTup h a its.toArray
  | .dK kvs => kvs.length ≤ sizeLine ∧ (a == sysModules) = false ∧ ∃ vs, KV kvs vs ∧ h.DictOf (mixKind P w) a vs
  | .dT kvs => kvs.length ≤ sizeLine ∧ (a == sysModules) = false ∧ ∃ xs : List (List Key × Addr × Value),
      Paired (fun (p : List Key × V) (q : List Key × Addr × Value) => p.1 = q.1 ∧ H q.2.1 = some (.tup (p.1.map kV)) ∧ RelV p.2 q.2.2) kvs xs ∧
      ∃ o es ep, h.get? a = some o ∧ o.ExactDict ∧ o.data = .dict es ep ∧ es.toList = xs.map (entryOfKey (tupleKind (mixKind P w))) ∧ (xs.map (·.1)).Nodup
  | .set S n => h.SetOf (intKind P w) a S n
  | .ins C dx fs => H dx = some (.own a) ∧ fs.length ≤ 1000 ∧ dx ≠ a ∧ h.get? a = some (PySem.W.instObj C dx) ∧
      ∃ mA, h.Ns1 dx mA ∧ (∀ f, RelO (fs.lookup f) (mA f)) ∧ PySem.Within mA (fs.map (·.1))
  | .own _ => ∃ o, h.get? a = some o
  | .xd fs => ∃ mA, h.Ns1 a mA ∧ ∀ f, RelO (fs.lookup f) (mA f)
  | .rng lo hi => ∃ t u v, h.get? a = some { cls := .type "range", data := .fields #[.int lo t, .int hi u, .int 1 v] }
  | .frz o u => h.get? a = some o ∧ ObjOk H h a u
  | .tbl ps => h.get? a = some { cls := .none, data := .fields ps }
  | .met f x => h.get? a = some (PySem.W.methodObj (.ref f) (.ref x))
  | .ext φ => φ h ∧ (∃ o, h.get? a = some o) ∧ ∀ h1 h2 : Heap, φ h1 → (∀ o, h1.get? a = some o → h2.get? a = some o) → φ h2
/-- the abstract heap is held -/
noncomputable def HOk (H : Hp) (h : Heap) : Prop := ∀ a o, H a = some o → ObjOk P w H h a o
end

section
variable {P : Program} {w : World} {H H' : Hp} {h h' : Heap} {a : Addr} {o : HO}
theorem ObjOk.lt (x : ObjOk P w H h a o) : a < h.objs.size := by
  cases o with
  | lst xs => obtain ⟨_, _, _, _, e⟩ := x; exact Heap.lt_size e
  | tup xs => obtain ⟨_, _, _, p⟩ := x; exact p.lt
  | dK kvs => obtain ⟨_, _, _, _, o, _, _, e, _⟩ := x; exact Heap.lt_size e
  | dT kvs => obtain ⟨_, _, _, _, o, _, _, e, _⟩ := x; exact Heap.lt_size e
  | set S n => obtain ⟨o, _, _, _, e, _⟩ := x; exact Heap.lt_size e
  | ins C dx fs => obtain ⟨_, _, _, e, _⟩ := x; exact Heap.lt_size e
  | own y => obtain ⟨_, e⟩ := x; exact Heap.lt_size e
  | xd fs => obtain ⟨_, ⟨_, _, _, e, _⟩, _⟩ := x; exact Heap.lt_size e
  | rng lo hi => obtain ⟨_, _, _, e⟩ := x; exact Heap.lt_size e
  | frz ob u => obtain ⟨e, _⟩ := x; exact Heap.lt_size e
  | tbl ps => exact Heap.lt_size (show h.get? a = some _ from x)
  | met f y => exact Heap.lt_size (show h.get? a = some _ from x)
  | ext φ => obtain ⟨_, ⟨_, e⟩, _⟩ := x; exact Heap.lt_size e
theorem Paired.mapP {α β : Type} {F G : α → β → Prop} : ∀ {l₁ : List α} {l₂ : List β}, Paired F l₁ l₂ → (∀ a b, F a b → G a b) → Paired G l₁ l₂
  | _, _, .nil, _ => .nil
  | _, _, .cons r t, f => .cons (f _ _ r) (Paired.mapP t f)
/-- what an object's description leans on: its own object, its own dict, the tuples -/
theorem ObjOk.stay (x : ObjOk P w H h a o) (k : ∀ b u, (b = a ∨ H b = some (.own a)) → h.get? b = some u → h'.get? b = some u)
    (ho : ∀ b, H b = some (.own a) → H' b = some (.own a)) (ht : ∀ b xs, H b = some (.tup xs) → H' b = some (.tup xs)) : ObjOk P w H' h' a o := by
  induction o with
  | lst xs => obtain ⟨z, its, n, r, e⟩ := x; exact ⟨z, its, n, r, k _ _ (.inl rfl) e⟩
  | tup xs => obtain ⟨z, its, r, ob, e, c⟩ := x; exact ⟨z, its, r, ob, k _ _ (.inl rfl) e, c⟩
  | dK kvs => obtain ⟨z, y, vs, r, ob, es, ep, e, c⟩ := x; exact ⟨z, y, vs, r, ob, es, ep, k _ _ (.inl rfl) e, c⟩
  | dT kvs =>
    obtain ⟨z, y, xs, r, ob, es, ep, e, c⟩ := x
    exact ⟨z, y, xs, Paired.mapP r fun p q z => ⟨z.1, ht _ _ z.2.1, z.2.2⟩, ob, es, ep, k _ _ (.inl rfl) e, c⟩
  | set S n => obtain ⟨ob, es, ep, t, e, c⟩ := x; exact ⟨ob, es, ep, t, k _ _ (.inl rfl) e, c⟩
  | ins C dx fs =>
    obtain ⟨d, z, ne, e, mA, ⟨od, es, ep, e2, c⟩, r⟩ := x
    exact ⟨ho _ d, z, ne, k _ _ (.inl rfl) e, mA, ⟨od, es, ep, k _ _ (.inr d) e2, c⟩, r⟩
  | own y => obtain ⟨ob, e⟩ := x; exact ⟨ob, k _ _ (.inl rfl) e⟩
  | xd fs => obtain ⟨mA, ⟨od, es, ep, e, c⟩, r⟩ := x; exact ⟨mA, ⟨od, es, ep, k _ _ (.inl rfl) e, c⟩, r⟩
  | rng lo hi => obtain ⟨t, u, v, e⟩ := x; exact ⟨t, u, v, k _ _ (.inl rfl) e⟩
  | frz ob u ih => obtain ⟨e, q⟩ := x; exact ⟨k _ _ (.inl rfl) e, ih q⟩
  | tbl ps =>
    have e : h.get? a = some { cls := .none, data := .fields ps } := x
    show h'.get? a = some { cls := .none, data := .fields ps }
    exact k a _ (.inl rfl) e
  | met f y =>
    have e : h.get? a = some (PySem.W.methodObj (.ref f) (.ref y)) := x
    show h'.get? a = some (PySem.W.methodObj (.ref f) (.ref y))
    exact k a _ (.inl rfl) e
  | ext φ => obtain ⟨p, ⟨o, e⟩, st⟩ := x; exact ⟨st _ _ p fun o q => k _ _ (.inl rfl) q, ⟨o, k _ _ (.inl rfl) e⟩, st⟩
theorem HOk.lt (x : HOk P w H h) (e : H a = some o) : a < h.objs.size := (x a o e).lt
theorem HOk.fresh (x : HOk P w H h) (e : h.objs.size ≤ a) : H a = none := by
  cases q : H a with
  | none => rfl
  | some u => exact absurd (Nat.lt_of_lt_of_le (x.lt q) e) (Nat.lt_irrefl _)
/-- every object of the heap is kept -/
theorem HOk.kept (x : HOk P w H h) (k : ∀ b u, h.get? b = some u → h'.get? b = some u) : HOk P w H h' := fun a o e =>
  (x a o e).stay (fun b u _ q => k b u q) (fun _ q => q) fun _ _ q => q
/-- a new object is laid and tracked -/
theorem HOk.laid (x : HOk P w H h) (k : ∀ b u, h.get? b = some u → h'.get? b = some u) (hp : h.objs.size ≤ a) (new : ObjOk P w (upd H a o) h' a o) : HOk P w (upd H a o) h' := fun b u e => by
  have hn := x.fresh hp
  by_cases hb : b = a
  · subst hb; rw [upd_same] at e; cases e; exact new
  · rw [upd_ne hb] at e
    exact (x b u e).stay (fun c v _ q => k c v q) (fun c q => by rw [upd_ne (ne_of_none q hn)]; exact q) fun c xs q => by rw [upd_ne (ne_of_none q hn)]; exact q
end

/-- what may be read as u: it is u, or a known u -/
noncomputable def Rd (H : Hp) (a : Addr) (u : HO) : Prop := H a = some u ∨ ∃ o, H a = some (.frz o u)
theorem Rd.ok {P : Program} {w : World} {H : Hp} {h : Heap} {a : Addr} {u : HO} (r : Rd H a u) (x : HOk P w H h) : ObjOk P w H h a u := by
  rcases r with r | ⟨o, r⟩
  · exact x a u r
  · obtain ⟨_, q⟩ := x a _ r
    exact q
/-- what may be written -/
noncomputable def Mut : Option HO → Prop
  | some (.lst _) => True
  | some (.dK _) => True
  | some (.dT _) => True
  | some (.set _ _) => True
  | some (.ins _ _ _) => True
  | some (.ext _) => True
  | _ => False
section
variable {P : Program} {w : World} {H : Hp} {h h' : Heap} {x e : Addr} {o' : HO}
/-- the object at e is changed: x itself, or the dict of the instance x -/
theorem HOk.write (ok : HOk P w H h) (mu : Mut (H x)) (he : e = x ∨ H e = some (.own x)) (k : ∀ b u, b ≠ e → h.get? b = some u → h'.get? b = some u) (heo : ∃ u, h'.get? e = some u)
    (new : ObjOk P w (upd H x o') h' x o') : HOk P w (upd H x o') h' := fun b u q => by
  have nown : ∀ c y, H c = some (.own y) → c ≠ x := fun c y r z => by subst z; rw [r] at mu; exact mu
  have ntup : ∀ c xs, H c = some (.tup xs) → c ≠ x := fun c xs r z => by subst z; rw [r] at mu; exact mu
  by_cases hb : b = x
  · subst hb; rw [upd_same] at q; cases q; exact new
  · rw [upd_ne hb] at q
    by_cases hbe : b = e
    · have q' : H b = some (.own x) := by
        rcases he with z | z
        · exact absurd (hbe.trans z) hb
        · rw [hbe]; exact z
      rw [q] at q'; cases q'
      obtain ⟨v, hv⟩ := heo
      exact ⟨v, by rw [hbe]; exact hv⟩
    · refine (ok b u q).stay (fun c v hc r => k c v ?_ r) (fun c r => by rw [upd_ne (nown c b r)]; exact r) fun c xs r => by rw [upd_ne (ntup c xs r)]; exact r
      rcases hc with rfl | hc
      · exact hbe
      · rintro rfl
        rcases he with z | z
        · exact nown c b hc z
        · rw [hc] at z; cases z; exact hb rfl
end

/-! ### kept unless tracked; of the frames at fs (the callers') the slots may change (an exception that passes writes there); of the records at ex (iterators) nothing is said -/
structure Un (fs ex : List Addr) (H H' : Hp) (h h' : Heap) : Prop where
  keep : ∀ b o, h.get? b = some o → H b = none → b ∉ fs → b ∉ ex → h'.get? b = some o
  slot : ∀ b o, h.get? b = some o → H b = none → b ∈ fs → b ∉ ex → ∃ sl, h'.get? b = some { o with slots := sl }
  free : ∀ b o, h.get? b = some o → H b = none → b ∉ ex → H' b = none
  there : ∀ b o, h.get? b = some o → b ∉ ex → ∃ o', h'.get? b = some o'
  tups : ∀ b xs, H b = some (.tup xs) → H' b = some (.tup xs)
  frzs : ∀ b o u, H b = some (.frz o u) → H' b = some (.frz o u)
  tbls : ∀ b ps, H b = some (.tbl ps) → ∃ more, H' b = some (.tbl (ps ++ more))
section
variable {fs fs' ex ex' : List Addr} {H H1 H2 : Hp} {h h1 h2 h' : Heap} {a x e : Addr} {o : HO}
theorem Un.any (u : Un fs ex H H1 h h1) {b : Addr} {ob : Obj} (q : h.get? b = some ob) (n : H b = none) (hx : b ∉ ex) : ∃ sl, h1.get? b = some { ob with slots := sl } := by
  by_cases hb : b ∈ fs
  · exact u.slot b ob q n hb hx
  · exact ⟨ob.slots, u.keep b ob q n hb hx⟩
theorem Un.kept (k : ∀ b u, h.get? b = some u → h'.get? b = some u) : Un fs ex H H h h' :=
  ⟨fun b ob q _ _ _ => k b ob q, fun b ob q _ _ _ => ⟨ob.slots, k b ob q⟩, fun _ _ _ n _ => n, fun b ob q _ => ⟨ob, k b ob q⟩, fun _ _ q => q, fun _ _ _ q => q, fun _ ps q => ⟨#[], by rw [q]; simp⟩⟩
theorem Un.refl : Un fs ex H H h h := Un.kept fun _ _ q => q
theorem Un.laid (k : ∀ b u, h.get? b = some u → h'.get? b = some u) (hp : h.objs.size ≤ a) (hn : H a = none) : Un fs ex H (upd H a o) h h' where
  keep := fun b u q _ _ _ => k b u q
  slot := fun b u q _ _ _ => ⟨u.slots, k b u q⟩
  free := fun b u q n _ => by rw [upd_ne (Nat.ne_of_lt (Nat.lt_of_lt_of_le (Heap.lt_size q) hp))]; exact n
  there := fun b u q _ => ⟨u, k b u q⟩
  tups := fun b xs q => by rw [upd_ne (ne_of_none q hn)]; exact q
  frzs := fun b u xs q => by rw [upd_ne (ne_of_none q hn)]; exact q
  tbls := fun b ps q => ⟨#[], by rw [upd_ne (ne_of_none q hn), q]; simp⟩
theorem Un.write (mu : Mut (H x)) (he : e = x ∨ H e = some (.own x)) (k : ∀ b u, b ≠ e → h.get? b = some u → h'.get? b = some u) (heo : ∃ u, h'.get? e = some u) : Un fs ex H (upd H x o) h h' := by
  have hx : ∀ b, H b = none → b ≠ x := fun b n z => by subst z; rw [n] at mu; exact mu
  have hb : ∀ b, H b = none → b ≠ e := fun b n z => by
    subst z
    rcases he with r | r
    · exact hx b n r
    · rw [n] at r; cases r
  have hm : ∀ b u, H b = some u → ¬ Mut (some u) → b ≠ x := fun b u q nm z => by subst z; rw [q] at mu; exact nm mu
  refine ⟨fun b u q n _ _ => k b u (hb b n) q, fun b u q n _ _ => ⟨u.slots, k b u (hb b n) q⟩, fun b u q n _ => by rw [upd_ne (hx b n)]; exact n, fun b u q _ => ?_,
    fun b xs q => by rw [upd_ne (hm b _ q fun z => z)]; exact q, fun b u xs q => by rw [upd_ne (hm b _ q fun z => z)]; exact q, fun b ps q => ⟨#[], by rw [upd_ne (hm b _ q fun z => z), q]; simp⟩⟩
  by_cases hbe : b = e
  · subst hbe; exact heo
  · exact ⟨u, k b u hbe q⟩
end

/-! ### the heap without what is tracked -/
noncomputable def trk (h : Heap) (H : Hp) : List Addr := (List.range h.objs.size).filter fun a => (H a).isSome
noncomputable def hidT (h : Heap) (H : Hp) : Heap := PySem.W.hideAll h (trk h H)
theorem hidT_size (h : Heap) (H : Hp) : (hidT h H).objs.size = h.objs.size := PySem.W.hideAll_size _ _
theorem hidT_get {h : Heap} {H : Hp} {b : Addr} {o : Obj} (e : h.get? b = some o) (n : H b = none) : (hidT h H).get? b = some o :=
  PySem.W.hideAll_get _ e fun hm => by
    have q : (H b).isSome = true := (List.mem_filter.mp hm).2
    rw [n] at q; simp at q
theorem of_hidT {h : Heap} {H : Hp} {b : Addr} {o : Obj} (e : (hidT h H).get? b = some o) : h.get? b = some o ∧ H b = none := by
  have e' : h.get? b = some o := PySem.W.of_hideAll (trk h H) e
  refine ⟨e', ?_⟩
  cases q : H b with
  | none => rfl
  | some x =>
    have hm : b ∈ trk h H := List.mem_filter.mpr ⟨List.mem_range.mpr (Heap.lt_size e'), by simp [q]⟩
    have z : (hidT h H).get? b = none := PySem.W.hideAll_none (trk h H) hm
    rw [z] at e; cases e

/-! ### OpenK's ledger, filled with every new object but one -/
end L2

namespace L2
open PySem PySem.Spec PyProof.Rows

/-- the module's facts, over the base: the heap at the law's entry without what is tracked there -/
structure Mod (K : PySem.W.Frag) (mg : Str → Option Value) (base : Heap) : Prop where
  kin : K.In base
  glob : base.Ns mainGlobals mg
  blt : ∃ mb, base.Ns builtinsNs mb ∧ ∀ x : Str, x ≠ "__name__" → mb x = bootBuiltins x
  nolimit : base.NoLimit

/-- the context: a def's body (or a comprehension's block) running. base: fixed through the whole law; s₀, H₀: the entry; outer: the frames whose slots others may change (a def's callers); stack: all frames that run;
   ex: iterators that were made ahead of the entry and are walked here (a comprehension's); fn: the names whose cells were made at the entry (a def: all; a comprehension's block: its own); calm: not within an except suite; pn: pins that every state bears; xe: what is wanted of an exception that leaves the code -/
structure Cx where
  prog : Program
  w : World
  K : PySem.W.Frag
  mg : Str → Option Value
  base : Heap
  A : Around
  N : List Str
  s₀ : Shared
  H₀ : Hp
  env : Env
  outer : List Env
  stack : List Env
  ex : List Addr
  fn : Str → Bool
  calm : Bool
  pn : List (Addr × Obj)
  xe : Value → Shared → Prop
/-- the callers' frames -/
noncomputable def frs (l : List Env) : List Addr := l.filterMap (·.frame)
noncomputable abbrev Cx.fs (X : Cx) : List Addr := frs X.outer

noncomputable def Vis (sc : Scope) (x : Str) : Prop := sc.names.lookup x = some .local ∨ sc.names.lookup x = some .cell ∨ sc.names.lookup x = some .free
noncomputable def Loc (sc : Scope) (x : Str) : Prop := sc.names.lookup x = some .local ∨ sc.names.lookup x = some .cell
noncomputable def Look (env : Env) (h : Heap) (m : Str → Option Value) (x : Str) (u : Value) : Prop :=
  (env.kindOf x = some .local ∧ m x = some u) ∨ ((env.kindOf x = some .cell ∨ env.kindOf x = some .free) ∧ ∃ c, env.cells.lookup x = some c ∧ h.IsCell c (some u))

structure Cx.Ok (X : Cx) : Prop where
  mod : Mod X.K X.mg X.base
  kind : X.env.scope.kind = .function
  glob : X.env.globals = mainGlobals
  blt : X.env.builtins = builtinsNs
  above : X.s₀.heap.objs.size ≤ X.env.locals
  inj : ∀ x y c, X.env.cells.lookup x = some c → X.env.cells.lookup y = some c → x = y
  has : ∀ x, (X.env.kindOf x = some .cell ∨ X.env.kindOf x = some .free) → ∃ c, X.env.cells.lookup x = some c
  cab : ∀ x c, X.fn x = true → X.env.cells.lookup x = some c → X.s₀.heap.objs.size ≤ c
  hd : X.calm = true → X.A.handled = none
  frames : X.A.frames = some X.stack
  stk : X.stack = X.outer ∨ (X.stack = X.env :: X.outer ∧ X.env.frame = some X.env.locals)
  exf : ∀ b ∈ X.ex, b ≠ X.env.locals ∧ ∀ x c, X.env.cells.lookup x = some c → c ≠ b
  bs : ∀ b o, X.base.get? b = some o → X.s₀.heap.get? b = some o ∧ X.H₀ b = none
  bsz : X.base.objs.size ≤ X.s₀.heap.objs.size
  noex : ∀ b o, X.base.get? b = some o → b ∉ X.ex
  exfs : ∀ b ∈ X.ex, b ∉ X.fs
  funs : X.s₀.heap.FunFrames X.base X.outer
  frf : ∀ b ∈ X.fs, X.H₀ b = none

structure Inv (X : Cx) (pins : List (Addr × Obj)) (σ : List (Option V)) (H : Hp) (s : Shared) : Prop where
  ok : X.Ok
  os : s.os = X.s₀.os
  bare : AllBare s.gens
  base : Un X.fs X.ex X.H₀ H X.s₀.heap s.heap
  loc : ∃ m, s.heap.Ns X.env.locals m ∧ ∀ (i : Nat) (x : Str) (v : V), X.N[i]? = some x → σ[i]? = some (some v) → Vis X.env.scope x → ∃ u, RelV v u ∧ Look X.env s.heap m x u
  cell : ∀ x c, X.env.cells.lookup x = some c → ∃ v, s.heap.IsCell c v
  free : H X.env.locals = none
  freeC : ∀ x c, X.env.cells.lookup x = some c → H c = none
  pin : ∀ p ∈ X.pn ++ pins, s.heap.get? p.1 = some p.2 ∧ H p.1 = none ∧ p.1 ≠ X.env.locals ∧ p.1 ∉ X.fs ∧ ∀ v, p.2.data ≠ .cell v
  hok : HOk X.prog X.w H s.heap
  len : σ.length = X.N.length

section
variable {X : Cx} {pins : List (Addr × Obj)} {σ : List (Option V)} {H H' : Hp} {s : Shared} {h' : Heap}

theorem Cx.Ok.nofr (ok : X.Ok) {b : Addr} {o : Obj} (e : X.base.get? b = some o) : b ∉ X.fs := fun hb => by
  have := (ok.funs.mem hb).1
  rw [e] at this; cases this
theorem Inv.bs (I : Inv X pins σ H s) : ∀ b o, X.base.get? b = some o → s.heap.get? b = some o ∧ H b = none := fun b o e =>
  ⟨I.base.keep b o (I.ok.bs b o e).1 (I.ok.bs b o e).2 (I.ok.nofr e) (I.ok.noex b o e), I.base.free b o (I.ok.bs b o e).1 (I.ok.bs b o e).2 (I.ok.noex b o e)⟩
theorem Inv.bk (I : Inv X pins σ H s) : ∀ b o, X.base.get? b = some o → s.heap.get? b = some o := fun b o e => (I.bs b o e).1
theorem Inv.mod (I : Inv X pins σ H s) : Mod X.K X.mg X.base := I.ok.mod
theorem Inv.kIn (I : Inv X pins σ H s) : X.K.In s.heap := I.ok.mod.kin.keeps I.bk
theorem Inv.lt (I : Inv X pins σ H s) : X.env.locals < s.heap.objs.size := let ⟨_, hn, _⟩ := I.loc; hn.lt
theorem Inv.sz (I : Inv X pins σ H s) : X.s₀.heap.objs.size ≤ s.heap.objs.size := Nat.le_trans I.ok.above (Nat.le_of_lt I.lt)
theorem Inv.nofs (I : Inv X pins σ H s) {a : Addr} (h : s.heap.objs.size ≤ a) : a ∉ X.fs := fun hb => by
  obtain ⟨_, o, ho, _⟩ := I.ok.funs.mem hb
  exact absurd (Nat.lt_of_lt_of_le (Heap.lt_size ho) (Nat.le_trans I.sz h)) (Nat.lt_irrefl _)
theorem Inv.cne (I : Inv X pins σ H s) : ∀ x c, X.env.cells.lookup x = some c → c ≠ X.env.locals := fun x c e z => by
  obtain ⟨v, o, ho, hd⟩ := I.cell x c e
  obtain ⟨m, ⟨o', es, ep, ho', hd', _⟩, _⟩ := I.loc
  rw [z, ho'] at ho; cases ho; rw [hd'] at hd; cases hd
theorem Inv.funs (I : Inv X pins σ H s) : s.heap.FunFrames X.base X.outer := by
  have all : ∀ (l : List Env), (∀ b ∈ frs l, b ∈ X.fs) → X.s₀.heap.FunFrames X.base l → s.heap.FunFrames X.base l := by
    intro l
    induction l with
    | nil => intro _ _; trivial
    | cons env r ih =>
      intro hs hl
      obtain ⟨hk, ⟨L, o, hf, hn, ho, hd⟩, hr⟩ := hl
      have hL : L ∈ X.fs := hs L (by unfold frs; rw [List.filterMap_cons, hf]; exact List.mem_cons_self)
      obtain ⟨sl, e⟩ := I.base.slot L o ho (I.ok.frf L hL) hL fun z => I.ok.exfs L z hL
      exact ⟨hk, ⟨L, _, hf, hn, e, hd⟩, ih (fun b hb => hs b (by unfold frs; rw [List.filterMap_cons, hf]; exact List.mem_cons_of_mem _ hb)) hr⟩
  exact all X.outer (fun _ hb => hb) I.ok.funs

/-- the frames that run, for a call -/
theorem Inv.stack (I : Inv X pins σ H s) : s.heap.FunFrames X.base X.stack := by
  rcases I.ok.stk with e | ⟨e, hf⟩
  · rw [e]; exact I.funs
  · rw [e]
    obtain ⟨m, hn, _⟩ := I.loc
    refine .cons (by rw [I.ok.kind]; decide) hf hn ?_ I.funs
    exact Heap.get?_none_of_le (Nat.le_trans I.ok.bsz I.ok.above)
theorem Inv.stkSub (I : Inv X pins σ H s) : ∀ b ∈ frs X.stack, b ∈ X.env.locals :: X.fs := fun b hb => by
  rcases I.ok.stk with e | ⟨e, hf⟩
  · rw [e] at hb; exact List.mem_cons_of_mem _ hb
  · rw [e] at hb
    unfold frs at hb
    rw [List.filterMap_cons, hf] at hb
    exact hb
theorem Inv.stkFree (I : Inv X pins σ H s) : ∀ b ∈ frs X.stack, H b = none := fun b hb => by
  rcases List.mem_cons.mp (I.stkSub b hb) with e | hb
  · rw [e]; exact I.free
  · obtain ⟨_, o, ho, _⟩ := I.ok.funs.mem hb
    exact I.base.free b o ho (I.ok.frf b hb) fun z => I.ok.exfs b z hb

/-- THE STEP: the untracked objects but the frame and the records at ch are kept (the callers' frames up to slots), the frame's map is kept, the new abstract heap is held -/
theorem Inv.step {g' : Array GenState} {t' : Nat} {d' : Drawn} {ch : List Addr} (I : Inv X pins σ H s)
    (hch : ∀ b ∈ ch, (b ∈ X.ex ∨ X.s₀.heap.objs.size ≤ b) ∧ b ≠ X.env.locals ∧ (∀ x c, X.env.cells.lookup x = some c → c ≠ b) ∧ ∀ p ∈ X.pn ++ pins, p.1 ≠ b)
    (keep : ∀ b o, b ≠ X.env.locals → b ∉ X.fs → b ∉ ch → s.heap.get? b = some o → H b = none → h'.get? b = some o)
    (slot : ∀ b o, b ≠ X.env.locals → b ∈ X.fs → b ∉ ch → s.heap.get? b = some o → H b = none → ∃ sl, h'.get? b = some { o with slots := sl }) (free : ∀ b o, b ∉ ch → s.heap.get? b = some o → H b = none → H' b = none)
    (there : ∀ b o, b ∉ ch → s.heap.get? b = some o → ∃ o', h'.get? b = some o')
    (tups : ∀ b xs, H b = some (.tup xs) → H' b = some (.tup xs)) (frzs : ∀ b o u, H b = some (.frz o u) → H' b = some (.frz o u)) (tbls : ∀ b ps, H b = some (.tbl ps) → ∃ more, H' b = some (.tbl (ps ++ more)))
    (ns : ∀ m, s.heap.Ns X.env.locals m → h'.Ns X.env.locals m) (hok : HOk X.prog X.w H' h') (hg : AllBare g') :
    Inv X pins σ H' { s with heap := h', gens := g', drawn := d', toks := t' } := by
  have neL : ∀ b o, X.s₀.heap.get? b = some o → b ≠ X.env.locals := fun b o e => Nat.ne_of_lt (Nat.lt_of_lt_of_le (Heap.lt_size e) I.ok.above)
  have neC : ∀ b o, X.s₀.heap.get? b = some o → b ∉ X.ex → b ∉ ch := fun b o e hx hb => by
    rcases (hch b hb).1 with z | z
    · exact hx z
    · exact absurd (Nat.lt_of_lt_of_le (Heap.lt_size e) z) (Nat.lt_irrefl _)
  have cellK : ∀ x c, X.env.cells.lookup x = some c → ∀ v, s.heap.IsCell c v → h'.IsCell c v := fun x c e v ⟨o, ho, hd⟩ => by
    have nch : c ∉ ch := fun z => (hch c z).2.2.1 x c e rfl
    by_cases hc : c ∈ X.fs
    · obtain ⟨sl, q⟩ := slot c o (I.cne x c e) hc nch ho (I.freeC x c e)
      exact ⟨_, q, hd⟩
    · exact ⟨o, keep c o (I.cne x c e) hc nch ho (I.freeC x c e), hd⟩
  refine ⟨I.ok, I.os, hg, ⟨fun b o e n hb hx => ?_, fun b o e n hb hx => ?_, fun b o e n hx => ?_, fun b o e hx => ?_, fun b xs e => tups b xs (I.base.tups b xs e), fun b o xs e => frzs b o xs (I.base.frzs b o xs e), fun b ps e => ?_⟩, ?_, fun x c e => ?_, ?_, fun x c e => ?_, fun p hp => ?_, hok, I.len⟩
  · exact keep b o (neL b o e) hb (neC b o e hx) (I.base.keep b o e n hb hx) (I.base.free b o e n hx)
  · obtain ⟨sl, e1⟩ := I.base.slot b o e n hb hx
    obtain ⟨sl', e2⟩ := slot b _ (neL b o e) hb (neC b o e hx) e1 (I.base.free b o e n hx)
    exact ⟨sl', e2⟩
  · obtain ⟨o', e1⟩ := I.base.there b o e hx
    exact free b o' (neC b o e hx) e1 (I.base.free b o e n hx)
  · obtain ⟨o', e1⟩ := I.base.there b o e hx
    exact there b o' (neC b o e hx) e1
  · obtain ⟨m1, e1⟩ := I.base.tbls b ps e
    obtain ⟨m2, e2⟩ := tbls b _ e1
    exact ⟨m1 ++ m2, by rw [e2, Array.append_assoc]⟩
  · obtain ⟨m, hn, hl⟩ := I.loc
    refine ⟨m, ns m hn, fun i x v e1 e2 e3 => ?_⟩
    obtain ⟨u, r, l⟩ := hl i x v e1 e2 e3
    refine ⟨u, r, ?_⟩
    rcases l with l | ⟨k, c, e, z⟩
    · exact .inl l
    · exact .inr ⟨k, c, e, cellK x c e _ z⟩
  · obtain ⟨v, z⟩ := I.cell x c e
    exact ⟨v, cellK x c e v z⟩
  · obtain ⟨m, ⟨o, _, _, ho, _⟩, _⟩ := I.loc
    exact free _ o (fun z => (hch _ z).2.1 rfl) ho I.free
  · obtain ⟨v, o, ho, hd⟩ := I.cell x c e
    exact free c o (fun z => (hch c z).2.2.1 x c e rfl) ho (I.freeC x c e)
  · obtain ⟨e, n, ne, nf, d⟩ := I.pin p hp
    have nch : p.1 ∉ ch := fun z => (hch p.1 z).2.2.2 p hp rfl
    exact ⟨keep p.1 p.2 ne nf nch e n, free p.1 p.2 nch e n, ne, nf, d⟩
/-- .. where the frame's own object is kept too -/
theorem Inv.un {t' : Nat} (I : Inv X pins σ H s) (u : Un X.fs [] H H' s.heap h') (hok : HOk X.prog X.w H' h') : Inv X pins σ H' { s with heap := h', toks := t' } := by
  obtain ⟨m, ⟨o, es, ep, ho, r⟩, _⟩ := id I.loc
  obtain ⟨sl, hL⟩ := u.any ho I.free (by simp)
  exact I.step (g' := s.gens) (d' := s.drawn) (ch := []) (fun _ z => nomatch z) (fun b o _ hb _ e n => u.keep b o e n hb (by simp)) (fun b o _ hb _ e n => u.slot b o e n hb (by simp)) (fun b o _ e n => u.free b o e n (by simp)) (fun b o _ e => u.there b o e (by simp)) u.tups u.frzs u.tbls (fun m' hm => by
    obtain ⟨o', es', ep', ho', r'⟩ := hm
    rw [ho] at ho'; cases ho'
    exact ⟨_, es', ep', hL, r'⟩) hok I.bare
/-- behind a call (or a comprehension's block): the slots of this frame may have changed too, the records at ch may have turned -/
theorem Inv.call {g' : Array GenState} {t' : Nat} {d' : Drawn} {ch : List Addr} (I : Inv X pins σ H s) (u : Un (frs X.stack) ch H H' s.heap h') (hok : HOk X.prog X.w H' h') (hg : AllBare g')
    (hch : ∀ b ∈ ch, (b ∈ X.ex ∨ X.s₀.heap.objs.size ≤ b) ∧ b ≠ X.env.locals ∧ (∀ x c, X.env.cells.lookup x = some c → c ≠ b) ∧ ∀ p ∈ X.pn ++ pins, p.1 ≠ b) :
    Inv X pins σ H' { s with heap := h', gens := g', drawn := d', toks := t' } := by
  obtain ⟨m, ⟨o, es, ep, ho, r⟩, _⟩ := id I.loc
  obtain ⟨sl, hL⟩ := u.any ho I.free fun z => (hch _ z).2.1 rfl
  exact I.step (ch := ch) hch (fun b o hL hb hc e n => u.keep b o e n (fun z => (List.mem_cons.mp (I.stkSub b z)).elim hL hb) hc) (fun b o _ _ hc e n => u.any e n hc) (fun b o hc e n => u.free b o e n hc) (fun b o hc e => u.there b o e hc) u.tups u.frzs u.tbls (fun m' hm => by
    obtain ⟨o', es', ep', ho', r'⟩ := hm
    rw [ho] at ho'; cases ho'
    exact ⟨_, es', ep', hL, r'⟩) hok hg
/-- an untracked record of ours (an iterator) has turned -/
theorem Inv.turned {t' : Nat} {it : Addr} (I : Inv X pins σ H s) (k : ∀ b o, b ≠ it → s.heap.get? b = some o → h'.get? b = some o) (hn : H it = none) (hL : it ≠ X.env.locals)
    (h1 : it ∈ X.ex ∨ X.s₀.heap.objs.size ≤ it) (h2 : ∀ x c, X.env.cells.lookup x = some c → c ≠ it) (h3 : ∀ p ∈ X.pn ++ pins, p.1 ≠ it) : Inv X pins σ H { s with heap := h', toks := t' } := by
  have nit : ∀ b u, H b = some u → b ≠ it := fun b u e z => by rw [z, hn] at e; cases e
  refine I.step (g' := s.gens) (d' := s.drawn) (ch := [it]) (fun b hb => ?_) (fun b o _ _ hc e _ => k b o (fun z => hc (by simp [z])) e) (fun b o _ _ hc e _ => ⟨o.slots, k b o (fun z => hc (by simp [z])) e⟩) (fun _ _ _ _ n => n)
    (fun b o hc e => ⟨o, k b o (fun z => hc (by simp [z])) e⟩) (fun _ _ e => e) (fun _ _ _ e => e) (fun b ps e => ⟨#[], by rw [e]; simp⟩) (fun m hm => ?_) (fun b u e => ?_) I.bare
  · have e : b = it := by simpa using hb
    subst e
    exact ⟨h1, hL, h2, h3⟩
  · obtain ⟨o, es, ep, ho, r⟩ := hm
    exact ⟨o, es, ep, k _ o (Ne.symm hL) ho, r⟩
  · refine (I.hok b u e).stay (fun c v hc q => k c v ?_ q) (fun _ q => q) fun _ _ q => q
    rcases hc with z | z
    · rw [z]; exact nit b u e
    · exact nit c _ z
theorem Inv.tok (I : Inv X pins σ H s) (t : Nat) : Inv X pins σ H { s with toks := t } := I.un (h' := s.heap) (t' := t) Un.refl I.hok
/-- all objects kept -/
theorem Inv.kept {t' : Nat} (I : Inv X pins σ H s) (k : ∀ b u, s.heap.get? b = some u → h'.get? b = some u) : Inv X pins σ H { s with heap := h', toks := t' } := I.un (Un.kept k) (I.hok.kept k)
/-- a new object laid and tracked -/
theorem Inv.laid {a : Addr} {o : HO} {t' : Nat} (I : Inv X pins σ H s) (k : ∀ b u, s.heap.get? b = some u → h'.get? b = some u) (hp : s.heap.objs.size ≤ a) (new : ObjOk X.prog X.w (upd H a o) h' a o) :
    Inv X pins σ (upd H a o) { s with heap := h', toks := t' } := I.un (Un.laid k hp (I.hok.fresh hp)) (I.hok.laid k hp new)
/-- an object written -/
theorem Inv.write {x e : Addr} {o : HO} {t' : Nat} (I : Inv X pins σ H s) (mu : Mut (H x)) (he : e = x ∨ H e = some (.own x)) (k : ∀ b u, b ≠ e → s.heap.get? b = some u → h'.get? b = some u) (heo : ∃ u, h'.get? e = some u)
    (new : ObjOk X.prog X.w (upd H x o) h' x o) : Inv X pins σ (upd H x o) { s with heap := h', toks := t' } := I.un (Un.write mu he k heo) (I.hok.write mu he k heo new)
/-- forgetting slots, pins -/
theorem Inv.weak {σ' : List (Option V)} (I : Inv X pins σ H s) (hl : σ'.length = σ.length) (w : ∀ (i : Nat) v, σ'[i]? = some (some v) → σ[i]? = some (some v)) : Inv X pins σ' H s :=
  ⟨I.ok, I.os, I.bare, I.base, let ⟨m, hn, hl'⟩ := I.loc; ⟨m, hn, fun i x v e1 e2 e3 => hl' i x v e1 (w i v e2) e3⟩, I.cell, I.free, I.freeC, I.pin, I.hok, hl.trans I.len⟩
theorem Inv.pins_of {pins' : List (Addr × Obj)} (I : Inv X pins σ H s) (h : ∀ p ∈ pins', s.heap.get? p.1 = some p.2 ∧ H p.1 = none ∧ p.1 ≠ X.env.locals ∧ p.1 ∉ X.fs ∧ ∀ v, p.2.data ≠ .cell v) : Inv X pins' σ H s :=
  ⟨I.ok, I.os, I.bare, I.base, I.loc, I.cell, I.free, I.freeC, fun p hp => (List.mem_append.mp hp).elim (fun z => I.pin p (List.mem_append_left _ z)) (h p), I.hok, I.len⟩

theorem nodup_ix {N : List Str} (hN : N.Nodup) {i j : Nat} {x : Str} (a : N[i]? = some x) (b : N[j]? = some x) : i = j := by
  obtain ⟨h1, e1⟩ := List.getElem?_eq_some_iff.mp a
  obtain ⟨h2, e2⟩ := List.getElem?_eq_some_iff.mp b
  exact (List.getElem_inj hN).mp (e1.trans e2.symm)

/-- a name is stored; what changed -/
theorem store_ok2 {M : Model} {A : Around} {E : Value → Shared → Prop} {i : Nat} {x : Str} {v : V} {u : Value} {Q : Unit → Shared → Prop} (I : Inv X pins σ H s) (hN : X.N.Nodup) (hi : X.N[i]? = some x) (hx : Loc X.env.scope x) (r : RelV v u)
    (h : ∀ s', Inv X pins (σ.set i (some v)) H s' → (∃ a, Heap.SameBut a s.heap s'.heap ∧ (a = X.env.locals ∨ X.env.cells.lookup x = some a)) → Q () s') (hf : X.fn x = true ∨ X.env.scope.names.lookup x = some .local := by first | exact .inl rfl | exact .inr rfl | assumption) : wpAny M A (storeName X.env x u) Q E s := by
  obtain ⟨m, hn, hl⟩ := id I.loc
  have hcls : (X.env.scope.kind == .class || (X.env.scope.kind == .module && X.env.locals != X.env.globals)) = false := by rw [I.ok.kind]; rfl
  have hiσ : i < σ.length := by rw [I.len]; exact (List.getElem?_eq_some_iff.mp hi).1
  have cne := I.cne
  have tracked : ∀ {a : Addr} {h' : Heap}, (∃ o, s.heap.get? a = some o ∧ H a = none) → Heap.SameBut a s.heap h' → HOk X.prog X.w H h' := fun {a h'} ha hs b ob e => by
    obtain ⟨_, _, hfree⟩ := ha
    refine (I.hok b ob e).stay (fun c w' hc q => (hs.2 c ?_).trans q) (fun _ q => q) fun _ _ q => q
    rintro rfl
    rcases hc with rfl | hc
    · rw [hfree] at e; cases e
    · rw [hfree] at hc; cases hc
  rcases hx with hk | hk
  · refine wpAny_storeName_local hk hn (fun h' hn' hs => ?_) hcls
    obtain ⟨oL, _, _, hoL, _⟩ := id hn
    refine h _ ⟨I.ok, I.os, I.bare, ⟨fun b o e n hb hx => ?_, fun b o e n hb hx => ?_, I.base.free, fun b o e hx => ?_, I.base.tups, I.base.frzs, I.base.tbls⟩, ⟨_, hn', fun j y v' e1 e2 e3 => ?_⟩, fun y c e => ?_, I.free, I.freeC, fun p hp => ?_, tracked ⟨oL, hoL, I.free⟩ hs, by simpa using I.len⟩ ⟨_, hs, .inl rfl⟩
    · exact (hs.2 b (Nat.ne_of_lt (Nat.lt_of_lt_of_le (Heap.lt_size e) I.ok.above))).trans (I.base.keep b o e n hb hx)
    · obtain ⟨sl, e1⟩ := I.base.slot b o e n hb hx
      exact ⟨sl, (hs.2 b (Nat.ne_of_lt (Nat.lt_of_lt_of_le (Heap.lt_size e) I.ok.above))).trans e1⟩
    · obtain ⟨o', e1⟩ := I.base.there b o e hx
      exact ⟨o', (hs.2 b (Nat.ne_of_lt (Nat.lt_of_lt_of_le (Heap.lt_size e) I.ok.above))).trans e1⟩
    · by_cases hj : j = i
      · subst hj
        rw [hi] at e1; cases e1
        rw [List.getElem?_set_self hiσ] at e2
        cases e2
        exact ⟨u, r, .inl ⟨hk, by simp⟩⟩
      · rw [List.getElem?_set_ne (Ne.symm hj)] at e2
        obtain ⟨u', r', q⟩ := hl j y v' e1 e2 e3
        refine ⟨u', r', ?_⟩
        rcases q with ⟨k, e⟩ | ⟨k, c, e, z⟩
        · refine .inl ⟨k, ?_⟩
          have : y ≠ x := fun e => hj (nodup_ix hN e1 (e ▸ hi))
          simp [this, e]
        · exact .inr ⟨k, c, e, z.sameBut hs (cne y c e)⟩
    · obtain ⟨w', z⟩ := I.cell y c e
      exact ⟨w', z.sameBut hs (cne y c e)⟩
    · obtain ⟨e, n, ne, nf, d⟩ := I.pin p hp
      exact ⟨(hs.2 p.1 ne).trans e, n, ne, nf, d⟩
  · have hfn : X.fn x = true := by
      rcases hf with z | z
      · exact z
      · rw [z] at hk; cases hk
    obtain ⟨c, hc⟩ := I.ok.has x (.inl hk)
    obtain ⟨w', z⟩ := I.cell x c hc
    refine wpAny_storeName_cell I.ok.kind hk hc z (fun h' hc' hs => ?_)
    obtain ⟨oc, hoc, hocd⟩ := id z
    refine h { s with heap := h' } ⟨I.ok, I.os, I.bare, ⟨fun b o e n hb hx => ?_, fun b o e n hb hx => ?_, I.base.free, fun b o e hx => ?_, I.base.tups, I.base.frzs, I.base.tbls⟩, ⟨m, hn.sameBut hs (Ne.symm (cne x c hc)), fun j y v' e1 e2 e3 => ?_⟩, fun y c' e => ?_, I.free, I.freeC, fun p hp => ?_, tracked ⟨oc, hoc, I.freeC x c hc⟩ hs, by simpa using I.len⟩ ⟨c, hs, .inr hc⟩
    · exact (hs.2 b (Nat.ne_of_lt (Nat.lt_of_lt_of_le (Heap.lt_size e) (I.ok.cab x c hfn hc)))).trans (I.base.keep b o e n hb hx)
    · obtain ⟨sl, e1⟩ := I.base.slot b o e n hb hx
      exact ⟨sl, (hs.2 b (Nat.ne_of_lt (Nat.lt_of_lt_of_le (Heap.lt_size e) (I.ok.cab x c hfn hc)))).trans e1⟩
    · obtain ⟨o', e1⟩ := I.base.there b o e hx
      exact ⟨o', (hs.2 b (Nat.ne_of_lt (Nat.lt_of_lt_of_le (Heap.lt_size e) (I.ok.cab x c hfn hc)))).trans e1⟩
    · by_cases hj : j = i
      · subst hj
        rw [hi] at e1; cases e1
        rw [List.getElem?_set_self hiσ] at e2
        cases e2
        exact ⟨u, r, .inr ⟨.inl hk, c, hc, hc'⟩⟩
      · rw [List.getElem?_set_ne (Ne.symm hj)] at e2
        obtain ⟨u', r', q⟩ := hl j y v' e1 e2 e3
        refine ⟨u', r', ?_⟩
        rcases q with q | ⟨k, c', e, z'⟩
        · exact .inl q
        · refine .inr ⟨k, c', e, z'.sameBut hs ?_⟩
          rintro rfl
          exact hj (nodup_ix hN e1 (I.ok.inj _ _ _ e hc ▸ hi))
    · by_cases hcc : c' = c
      · subst hcc; exact ⟨_, hc'⟩
      · obtain ⟨w2, z2⟩ := I.cell y c' e
        exact ⟨w2, z2.sameBut hs hcc⟩
    · obtain ⟨e, n, ne, nf, d⟩ := I.pin p hp
      refine ⟨(hs.2 p.1 ?_).trans e, n, ne, nf, d⟩
      intro q
      rw [q, hoc] at e
      have q' : oc = p.2 := Option.some.inj e
      exact d w' (by rw [← q']; exact hocd)
theorem store_ok {M : Model} {A : Around} {E : Value → Shared → Prop} {i : Nat} {x : Str} {v : V} {u : Value} {Q : Unit → Shared → Prop} (I : Inv X pins σ H s) (hN : X.N.Nodup) (hi : X.N[i]? = some x) (hx : Loc X.env.scope x) (r : RelV v u)
    (h : ∀ s', Inv X pins (σ.set i (some v)) H s' → Q () s') (hf : X.fn x = true ∨ X.env.scope.names.lookup x = some .local := by first | exact .inl rfl | exact .inr rfl | assumption) : wpAny M A (storeName X.env x u) Q E s :=
  store_ok2 I hN hi hx r (fun s' I' _ => h s' I') hf
/-- behind a call or a block, the state as it is -/
theorem Inv.call' {s' : Shared} {ch : List Addr} (I : Inv X pins σ H s) (ho : s'.os = s.os) (u : Un (frs X.stack) ch H H' s.heap s'.heap) (hok : HOk X.prog X.w H' s'.heap) (hg : AllBare s'.gens)
    (hch : ∀ b ∈ ch, (b ∈ X.ex ∨ X.s₀.heap.objs.size ≤ b) ∧ b ≠ X.env.locals ∧ (∀ x c, X.env.cells.lookup x = some c → c ≠ b) ∧ ∀ p ∈ X.pn ++ pins, p.1 ≠ b) : Inv X pins σ H' s' := by
  obtain ⟨h', g', d', t', o'⟩ := s'
  have e : o' = s.os := ho
  subst e
  exact I.call (g' := g') (t' := t') (d' := d') u hok hg hch
end

/-! ### the judgements -/
/-- an exception: its class, its own dict's address (where it has one), the abstract heap behind it -/
noncomputable abbrev XK := Value → Option Addr → Hp → Prop
noncomputable abbrev St := List (Option V)
noncomputable abbrev VK := V → Hp → Prop
/-- an expression's reading; a test's; an argument list's -/
noncomputable abbrev TE := St → Hp → VK → Prop
noncomputable abbrev TT := St → Hp → (Bool → Hp → Prop) → Prop
noncomputable abbrev TA := St → Hp → (List V → Hp → Prop) → Prop
/-- what is wanted behind a statement -/
structure Ends where
  nx : St → Hp → Prop
  rt : VK
  bk : St → Hp → Prop := fun _ _ => False
  ct : St → Hp → Prop := fun _ _ => False
noncomputable abbrev TS := Ends → St → Hp → Prop

noncomputable def EP (X : Cx) (pins : List (Addr × Obj)) (σ : St) (Q : VK) (u : Value) (s' : Shared) : Prop := ∃ v H', Inv X pins σ H' s' ∧ RelV v u ∧ Q v H'
noncomputable def TP (X : Cx) (pins : List (Addr × Obj)) (σ : St) (Q : Bool → Hp → Prop) (b : Bool) (s' : Shared) : Prop := ∃ H', Inv X pins σ H' s' ∧ Q b H'
noncomputable def AP (X : Cx) (pins : List (Addr × Obj)) (σ : St) (Q : List V → Hp → Prop) (us : List Value) (s' : Shared) : Prop := ∃ vs H', Inv X pins σ H' s' ∧ Vals vs us ∧ Q vs H'
noncomputable def SP (X : Cx) (pins : List (Addr × Obj)) (D : Ends) (f : Flow) (s' : Shared) : Prop :=
  match f with
  | .next => ∃ σ' H', Inv X pins σ' H' s' ∧ D.nx σ' H'
  | .brk => ∃ σ' H', Inv X pins σ' H' s' ∧ D.bk σ' H'
  | .cont => ∃ σ' H', Inv X pins σ' H' s' ∧ D.ct σ' H'
  | .ret u => ∃ v σ' H', Inv X pins σ' H' s' ∧ RelV v u ∧ D.rt v H'

noncomputable def PE (X : Cx) (e : Expr) (t : TE) : Prop :=
  ∀ (pins : List (Addr × Obj)) (s : Shared) (σ : St) (H : Hp) (Q : VK), Inv X pins σ H s → t σ H Q → wpAny (model X.prog X.w) X.A (eval e X.env) (EP X pins σ Q) X.xe s
noncomputable def PT (X : Cx) (e : Expr) (t : TT) : Prop :=
  ∀ (pins : List (Addr × Obj)) (s : Shared) (σ : St) (H : Hp) (Q : Bool → Hp → Prop), Inv X pins σ H s → t σ H Q → wpAny (model X.prog X.w) X.A (isTrue e X.env (eval e X.env)) (TP X pins σ Q) X.xe s
/-- a test whatever its 'whole' is (and, or) -/
noncomputable def PW (X : Cx) (e : Expr) (t : TT) : Prop :=
  ∀ (whole : Sem Value) (pins : List (Addr × Obj)) (s : Shared) (σ : St) (H : Hp) (Q : Bool → Hp → Prop), Inv X pins σ H s → t σ H Q → wpAny (model X.prog X.w) X.A (isTrue e X.env whole) (TP X pins σ Q) X.xe s
theorem PW.pt {X : Cx} {e : Expr} {t : TT} (h : PW X e t) : PT X e t := h _
/-- an argument list (no star), from the left -/
noncomputable def PA (X : Cx) (es : List Expr) (t : TA) : Prop :=
  ∀ (pos : Pos) (pins : List (Addr × Obj)) (s : Shared) (σ : St) (H : Hp) (Q : List V → Hp → Prop), Inv X pins σ H s → t σ H Q → wpAny (model X.prog X.w) X.A (spliced (backTo pos (starEach es X.env))) (AP X pins σ Q) X.xe s
noncomputable def PS (X : Cx) (st : Stmt) (t : TS) : Prop :=
  ∀ (pins : List (Addr × Obj)) (s : Shared) (σ : St) (H : Hp) (D : Ends), Inv X pins σ H s → t D σ H → wpAny (model X.prog X.w) X.A (exec st X.env) (SP X pins D) X.xe s
noncomputable def PSs (X : Cx) (st : List Stmt) (t : TS) : Prop :=
  ∀ (pins : List (Addr × Obj)) (s : Shared) (σ : St) (H : Hp) (D : Ends), Inv X pins σ H s → t D σ H → wpAny (model X.prog X.w) X.A (execs st X.env) (SP X pins D) X.xe s
/-- weaken the end -/
theorem thn {α : Type} {t : Sem α} {Q Q' : α → Shared → Prop} {M : Model} {A : Around} {E : Value → Shared → Prop} {s : Shared} (h : wpAny M A t Q E s) (hQ : ∀ a s, Q a s → Q' a s) : wpAny M A t Q' E s := wpAny_mono h hQ fun _ _ x => x
end L2

namespace L2
open PySem PySem.Spec PyProof.Rows
section
variable {X : Cx}

/-! ### names and constants -/
noncomputable def tVar (i : Nat) : TE := fun σ H Q => ∃ v, σ[i]? = some (some v) ∧ Q v H
noncomputable def tC (v : V) : TE := fun _ H Q => Q v H
theorem pe_var {i : Nat} {x : Str} {pos : Pos} (hN : X.N[i]? = some x) (hv : Vis X.env.scope x) (hd : (x == ("__debug__" : Str)) = false := by decide) (hcd : (x == ("__classdict__" : Str)) = false := by decide) : PE X (.Name x pos) (tVar i) := by
  intro pins s σ H Q I h
  obtain ⟨v, e, h⟩ := h
  obtain ⟨m, hn, hl⟩ := I.loc
  obtain ⟨u, r, l⟩ := hl i x v hN e hv
  have fin : EP X pins σ Q u s := ⟨v, H, I, r, h⟩
  rcases l with ⟨hk, hm⟩ | ⟨hk, c, hc, hcell⟩
  · exact wpAny_Name (wpAny_loadName_local I.ok.kind hk hn hm fin) hd
  · rcases hk with hk | hk
    · exact wpAny_Name (wpAny_loadName_cell I.ok.kind hk hc hcell fin) hd
    · exact wpAny_Name (wpAny_loadName_free I.ok.kind hk hc hcell fin hcd) hd
theorem pe_int {i j pos} : PE X (.Constant (.int i) j pos) (tC (.int i)) := fun _ _ _ H _ I h => wpAny_Constant_int ⟨.int i, H, I.tok _, ⟨_, rfl⟩, h⟩
theorem pe_bl {b j pos} : PE X (.Constant (.bool b) j pos) (tC (.bl b)) := fun _ _ _ H _ I h => Constant_bool ⟨.bl b, H, I, rfl, h⟩
theorem pe_str {x j pos} : PE X (.Constant (.str x) j pos) (tC (.str x)) := fun _ _ _ H _ I h => Calls.Constant_str ⟨.str x, H, I.tok _, ⟨_, rfl⟩, h⟩

/-- a global name of the def -/
noncomputable def Gl (X : Cx) (x : Str) : Prop := X.env.kindOf x = some .globalImplicit
theorem ld_glob {E : Value → Shared → Prop} {pins : List (Addr × Obj)} {s : Shared} {σ : St} {H : Hp} {x : Str} {u : Value} {pos : Pos} {Q : Value → Shared → Prop} (I : Inv X pins σ H s) (hg : Gl X x) (hm : X.mg x = some u) (h : Q u s)
    (hd : (x == ("__debug__" : Str)) = false := by decide) : wpAny (model X.prog X.w) X.A (eval (.Name x pos) X.env) Q E s :=
  Calls.Name_function_global I.ok.kind hg (Calls.loadGlobal_global (by rw [I.ok.glob]; exact I.mod.glob.keeps I.bk) hm h) hd
theorem ld_blt {E : Value → Shared → Prop} {pins : List (Addr × Obj)} {s : Shared} {σ : St} {H : Hp} {x : Str} {u : Value} {pos : Pos} {Q : Value → Shared → Prop} (I : Inv X pins σ H s) (hg : Gl X x) (hm : X.mg x = none) (hv : bootBuiltins x = some u) (h : Q u s)
    (hn : x ≠ "__name__" := by decide) (hd : (x == ("__debug__" : Str)) = false := by decide) : wpAny (model X.prog X.w) X.A (eval (.Name x pos) X.env) Q E s := by
  obtain ⟨mb, h1, h2⟩ := I.mod.blt
  exact Calls.Name_function_global I.ok.kind hg (Calls.loadGlobal_builtin (by rw [I.ok.glob]; exact I.mod.glob.keeps I.bk) hm (by rw [I.ok.blt]; exact h1.keeps I.bk) ((h2 x hn).trans hv) h) hd
/-- a module's constant, a class, a function, as a value -/
theorem pe_glob {x : Str} {v : V} {u : Value} {pos : Pos} (hg : Gl X x) (hm : X.mg x = some u) (r : RelV v u) (hd : (x == ("__debug__" : Str)) = false := by decide) : PE X (.Name x pos) (tC v) :=
  fun _ _ _ H _ I h => ld_glob I hg hm ⟨v, H, I, r, h⟩ hd
theorem pe_bltn {x : Str} {v : V} {u : Value} {pos : Pos} (hg : Gl X x) (hm : X.mg x = none) (hv : bootBuiltins x = some u) (r : RelV v u) (hn : x ≠ "__name__" := by decide) (hd : (x == ("__debug__" : Str)) = false := by decide) : PE X (.Name x pos) (tC v) :=
  fun _ _ _ H _ I h => ld_blt I hg hm hv ⟨v, H, I, r, h⟩ hn hd

/-! ### arithmetic -/
variable {a b : Expr} {ta tb : TE} {pos : Pos}
/-! ### comparisons -/
/-- a comparison as a value, as a test -/
noncomputable def tB (t : TE) : TT := fun σ H Q => t σ H fun x H1 => ∃ c, x = .bl c ∧ Q c H1
/-- an expression whose value is a bool, as a test -/
theorem pt_val {e : Expr} {t : TE} (h : PE X e t) (he : ∀ whole, isTrue e X.env whole = (do let v ← whole; standAt e.pos; holding [v] (truthy v)) := by intro _; rfl) : PT X e (tB t) := by
  intro pins s σ H Q I hw
  refine isTrue_plain (thn (h pins s σ H _ I hw) fun v s1 ⟨x, H1, I1, r1, q1⟩ => ?_) (he _)
  obtain ⟨d, rfl, q⟩ := q1
  cases r1
  exact wpAny_truthy_bool ⟨H1, I1, q⟩

/-! ### and, or, not -/
variable {tA tB' : TT} {rest : List Expr}
noncomputable def tAnd (t u : TT) : TT := fun σ H Q => t σ H fun c H1 => if c = true then u σ H1 Q else Q false H1
noncomputable def tOr (t u : TT) : TT := fun σ H Q => t σ H fun c H1 => if c = true then Q true H1 else u σ H1 Q
noncomputable def tNot (t : TT) : TT := fun σ H Q => t σ H fun c H1 => Q (!c) H1
theorem pw_and1 (ha : PT X a tA) : PW X (.BoolOp .And [a] pos) tA := by
  intro wh pins s σ H Q I h
  refine isTrue_and (thn (ha pins s σ H Q I h) fun c s1 e => ?_)
  cases c with
  | true => exact isTrue_and_nil e
  | false => exact e
theorem pw_or1 (ha : PT X a tA) : PW X (.BoolOp .Or [a] pos) tA := by
  intro wh pins s σ H Q I h
  refine isTrue_or (thn (ha pins s σ H Q I h) fun c s1 e => ?_)
  cases c with
  | false => exact isTrue_or_nil e
  | true => exact e
theorem pw_and (ha : PT X a tA) (hb : PW X (.BoolOp .And (b :: rest) pos) tB') : PW X (.BoolOp .And (a :: b :: rest) pos) (tAnd tA tB') := by
  intro wh pins s σ H Q I h
  refine isTrue_and (thn (ha pins s σ H _ I h) fun c s1 ⟨H1, I1, q1⟩ => ?_)
  cases c with
  | true => exact hb wh pins s1 σ H1 Q I1 q1
  | false => exact ⟨H1, I1, q1⟩
theorem pw_or (ha : PT X a tA) (hb : PW X (.BoolOp .Or (b :: rest) pos) tB') : PW X (.BoolOp .Or (a :: b :: rest) pos) (tOr tA tB') := by
  intro wh pins s σ H Q I h
  refine isTrue_or (thn (ha pins s σ H _ I h) fun c s1 ⟨H1, I1, q1⟩ => ?_)
  cases c with
  | true => exact ⟨H1, I1, q1⟩
  | false => exact hb wh pins s1 σ H1 Q I1 q1
theorem pt_not (ha : PT X a tA) : PT X (.UnaryOp .Not a pos) (tNot tA) := by
  intro pins s σ H Q I h
  exact isTrue_not (ha pins s σ H (fun c H1 => Q (!c) H1) I h)
/-- .. as values (bools) -/
noncomputable def tAndV (ta tb : TE) : TE := fun σ H Q => ta σ H fun x H1 => ∃ c, x = .bl c ∧ if c = true then tb σ H1 Q else Q (.bl false) H1
noncomputable def tNotV (ta : TE) : TE := fun σ H Q => ta σ H fun x H1 => ∃ c, x = .bl c ∧ Q (.bl (!c)) H1
theorem pe_one {op} {t : TE} (h : PE X a t) : PE X (.BoolOp op [a] pos) t := fun pins s σ H Q I hw => BoolOp_one (h pins s σ H Q I hw)
theorem pe_and (ha : PE X a ta) (hb : PE X (.BoolOp .And (b :: rest) pos) tb) : PE X (.BoolOp .And (a :: b :: rest) pos) (tAndV ta tb) := by
  intro pins s σ H Q I h
  refine BoolOp_and (thn (ha pins s σ H _ I h) fun v s1 ⟨x, H1, I1, r1, q1⟩ => ?_)
  obtain ⟨c, rfl, q1⟩ := q1
  cases r1
  refine wpAny_truthy_bool ?_
  cases c with
  | true => exact hb pins s1 σ H1 Q I1 q1
  | false => exact ⟨.bl false, H1, I1, rfl, q1⟩
theorem pe_not (ha : PE X a ta) : PE X (.UnaryOp .Not a pos) (tNotV ta) := by
  intro pins s σ H Q I h
  refine UnaryOp_ (thn (ha pins s σ H _ I h) fun v s1 ⟨x, H1, I1, r1, q1⟩ => ?_)
  obtain ⟨c, rfl, q1⟩ := q1
  cases r1
  exact not_of (wpAny_truthy_bool ⟨.bl (!c), H1, I1, rfl, q1⟩)
end
end L2

namespace L2
open PySem PySem.Spec PyProof.Rows

/-! ### a list, a tuple that is read: tracked, frozen, or an object of the module -/
noncomputable def SqL (K : PySem.W.Frag) (H : Hp) (a : Addr) (xs : List V) : Prop :=
  Rd H a (.lst xs) ∨
    ∃ (o : Obj) (its : Array Value) (n : Nat), K.lookup a = some o ∧ o.cls = .type "list" ∧ o.dict = none ∧ o.data = .seq its n ∧ its.size ≤ sizeLine ∧ Vals xs its.toList
noncomputable def SqT (K : PySem.W.Frag) (H : Hp) (a : Addr) (xs : List V) : Prop :=
  Rd H a (.tup xs) ∨
    ∃ (o : Obj) (its : Array Value) (n : Nat), K.lookup a = some o ∧ o.cls = .type "tuple" ∧ o.data = .seq its n ∧ its.size ≤ sizeLine ∧ Vals xs its.toList
noncomputable def absV : Value → Option V
  | .none => some .non
  | .bool b => some (.bl b)
  | .int i _ => some (.int i)
  | .str x _ => some (.str x)
  | .bytes b _ => some (.byt b)
  | .float b _ => some (.flt b)
  | .ref a => some (.ref a)
  | .type n => some (.ty n)
  | _ => none
theorem RelV.abs {x : V} {u : Value} (r : RelV x u) : absV u = some x := by
  cases x with
  | non => cases r; rfl
  | bl _ => cases r; rfl
  | int _ => obtain ⟨t, rfl⟩ := r; rfl
  | str _ => obtain ⟨t, rfl⟩ := r; rfl
  | byt _ => obtain ⟨t, rfl⟩ := r; rfl
  | flt _ => obtain ⟨t, rfl⟩ := r; rfl
  | ref _ => cases r; rfl
  | ty _ => cases r; rfl
theorem RelV.inj {x y : V} {u : Value} (r : RelV x u) (q : RelV y u) : x = y := Option.some.inj (r.abs.symm.trans q.abs)
theorem Vals.inj : ∀ {xs ys : List V} {us : List Value}, Vals xs us → Vals ys us → xs = ys
  | _, _, _, .nil, .nil => rfl
  | _, _, _, .cons r t, .cons r' t' => by rw [r.inj r', Vals.inj t t']
section
variable {X : Cx} {pins : List (Addr × Obj)} {σ : St} {H : Hp} {s : Shared} {a : Addr} {xs ys : List V}
theorem SqL.of {K : PySem.W.Frag} (h : H a = some (.lst xs)) : SqL K H a xs := .inl (.inl h)
theorem SqT.of {K : PySem.W.Frag} (h : H a = some (.tup xs)) : SqT K H a xs := .inl (.inl h)
theorem Inv.list (I : Inv X pins σ H s) (h : SqL X.K H a xs) : ∃ its : List Value, Vals xs its ∧ PlainL s.heap a its.toArray ∧ xs.length ≤ sizeLine := by
  rcases h with h | ⟨o, its, n, hk, hc, hd, hs, hz, r⟩
  · obtain ⟨z, its, n, r, e⟩ := h.ok I.hok
    exact ⟨its, r, ⟨_, n, e, rfl, rfl, rfl⟩, z⟩
  · refine ⟨its.toList, r, ⟨o, n, I.kIn a o hk, hc, hd, by simpa using hs⟩, ?_⟩
    have e := r.length
    simp only [Array.length_toList] at e
    omega
theorem Inv.tuple (I : Inv X pins σ H s) (h : SqT X.K H a xs) : ∃ its : List Value, Vals xs its ∧ IsTup s.heap a its.toArray ∧ xs.length ≤ sizeLine := by
  rcases h with h | ⟨o, its, n, hk, hc, hs, hz, r⟩
  · obtain ⟨z, its, r, p⟩ := h.ok I.hok
    exact ⟨its, r, p, z⟩
  · refine ⟨its.toList, r, ⟨o, I.kIn a o hk, hc, n, by simpa using hs⟩, ?_⟩
    have e := r.length
    simp only [Array.length_toList] at e
    omega
theorem Inv.list_inj (I : Inv X pins σ H s) (h : SqL X.K H a xs) (h' : SqL X.K H a ys) : xs = ys := by
  obtain ⟨its, r, ⟨o, n, e, _, _, d⟩, _⟩ := I.list h
  obtain ⟨its', r', ⟨o', n', e', _, _, d'⟩, _⟩ := I.list h'
  rw [e] at e'; cases e'
  rw [d] at d'
  injection d' with d1 _
  have : its = its' := by simpa using congrArg Array.toList d1
  subst this
  exact r.inj r'
theorem Inv.tuple_inj (I : Inv X pins σ H s) (h : SqT X.K H a xs) (h' : SqT X.K H a ys) : xs = ys := by
  obtain ⟨its, r, ⟨o, e, _, n, d⟩, _⟩ := I.tuple h
  obtain ⟨its', r', ⟨o', e', _, n', d'⟩, _⟩ := I.tuple h'
  rw [e] at e'; cases e'
  rw [d] at d'
  injection d' with d1 _
  have : its = its' := by simpa using congrArg Array.toList d1
  subst this
  exact r.inj r'
end

/-! ### another wish about exceptions -/
noncomputable abbrev Cx.wish (X : Cx) (E : Value → Shared → Prop) : Cx := { X with xe := E }
/-- no exception leaves -/
noncomputable abbrev Cx.nox (X : Cx) : Cx := X.wish fun _ _ => False
theorem Cx.Ok.wish {X : Cx} (ok : X.Ok) (E : Value → Shared → Prop) : (X.wish E).Ok :=
  ⟨ok.mod, ok.kind, ok.glob, ok.blt, ok.above, ok.inj, ok.has, ok.cab, ok.hd, ok.frames, ok.stk, ok.exf, ok.bs, ok.bsz, ok.noex, ok.exfs, ok.funs, ok.frf⟩
theorem Cx.Ok.unwish {X : Cx} {E : Value → Shared → Prop} (ok : (X.wish E).Ok) : X.Ok :=
  ⟨ok.mod, ok.kind, ok.glob, ok.blt, ok.above, ok.inj, ok.has, ok.cab, ok.hd, ok.frames, ok.stk, ok.exf, ok.bs, ok.bsz, ok.noex, ok.exfs, ok.funs, ok.frf⟩
section
variable {X : Cx} {pins : List (Addr × Obj)} {σ : St} {H : Hp} {s : Shared} {E : Value → Shared → Prop}
theorem Inv.wish (I : Inv X pins σ H s) (E : Value → Shared → Prop) : Inv (X.wish E) pins σ H s := ⟨I.ok.wish E, I.os, I.bare, I.base, I.loc, I.cell, I.free, I.freeC, I.pin, I.hok, I.len⟩
theorem Inv.unwish (I : Inv (X.wish E) pins σ H s) : Inv X pins σ H s := ⟨I.ok.unwish, I.os, I.bare, I.base, I.loc, I.cell, I.free, I.freeC, I.pin, I.hok, I.len⟩
theorem SP.unwish {D : Ends} {f : Flow} {s' : Shared} (h : SP (X.wish E) pins D f s') : SP X pins D f s' := by
  cases f with
  | next => obtain ⟨σ', H', I, q⟩ := h; exact ⟨σ', H', I.unwish, q⟩
  | brk => obtain ⟨σ', H', I, q⟩ := h; exact ⟨σ', H', I.unwish, q⟩
  | cont => obtain ⟨σ', H', I, q⟩ := h; exact ⟨σ', H', I.unwish, q⟩
  | ret u => obtain ⟨v, σ', H', I, r, q⟩ := h; exact ⟨v, σ', H', I.unwish, r, q⟩
theorem PSs.nox {st : List Stmt} {t : TS} (h : PSs X.nox st t) : PSs X st t := fun pins s σ H D I hw =>
  wpAny_mono (h pins s σ H D (I.wish _) hw) (fun _ _ q => q.unwish) fun _ _ z => False.elim z
end

/-! ### blocks and small statements -/
section
variable {X : Cx} {st : Stmt} {rest : List Stmt} {t u : TS} {e : Expr} {te : TE} {pos : Pos}
noncomputable def tNext : TS := fun D σ H => D.nx σ H
noncomputable def tSeq (t u : TS) : TS := fun D σ H => t { D with nx := u D } σ H
theorem pss_nil : PSs X [] tNext := fun _ _ σ H _ I h => wpAny_execs_nil ⟨σ, H, I, h⟩
theorem pss_cons (h1 : PS X st t) (h2 : PSs X rest u) : PSs X (st :: rest) (tSeq t u) := by
  intro pins s σ H D I h
  refine wpAny_execs_cons (thn (h1 pins s σ H { D with nx := u D } I h) fun f s1 q => ?_)
  cases f with
  | next =>
    obtain ⟨σ', H', I', q⟩ := q
    exact h2 pins s1 σ' H' D I' q
  | ret v => exact q
  | brk => exact q
  | cont => exact q
theorem pss_one (h1 : PS X st t) : PSs X [st] t := by
  intro pins s σ H D I h
  refine wpAny_execs_cons (thn (h1 pins s σ H D I h) fun f s1 q => ?_)
  cases f with
  | next => exact wpAny_execs_nil q
  | ret v => exact q
  | brk => exact q
  | cont => exact q
/-- in a def's body nothing is shown -/
theorem Inv.quiet {pins : List (Addr × Obj)} {σ : St} {H : Hp} {s : Shared} (I : Inv X pins σ H s) : interactive X.env = false := by simp [interactive, I.ok.kind]
/-- an expression whose value is dropped -/
noncomputable def tDrop (te : TE) : TS := fun D σ H => te σ H fun _ H1 => D.nx σ H1
theorem ps_expr (he : PE X e te) (hs : swapsWith e none pos.line X.env = pure false := by rfl) : PS X (.Expr e pos) (tDrop te) := by
  intro pins s σ H D I h
  exact wpAny_Expr_any (thn (he pins s σ H _ I h) fun v s1 ⟨x, H1, I1, r1, q1⟩ => ⟨σ, H1, I1, q1⟩) I.quiet hs
noncomputable def tRet (te : TE) : TS := fun D σ H => te σ H D.rt
theorem ps_ret (he : PE X e te) : PS X (.Return (some e) pos) (tRet te) := by
  intro pins s σ H D I h
  exact wpAny_Return_some (thn (he pins s σ H _ I h) fun v s1 ⟨x, H1, I1, r1, q1⟩ => ⟨x, σ, H1, I1, r1, q1⟩)
noncomputable def tIfS (c : TT) (t u : TS) : TS := fun D σ H => c σ H fun b H1 => if b = true then t D σ H1 else u D σ H1
theorem ps_if {c : Expr} {a b : List Stmt} {tc : TT} (hc : PT X c tc) (ha : PSs X a t) (hb : PSs X b u) : PS X (.If c a b pos) (tIfS tc t u) := by
  intro pins s σ H D I h
  refine wpAny_If (thn (hc pins s σ H _ I h) fun d s1 ⟨H1, I1, q1⟩ => ?_)
  cases d with
  | true => exact ha pins s1 σ H1 D I1 q1
  | false => exact hb pins s1 σ H1 D I1 q1
end

/-! ### targets -/
noncomputable abbrev TG := V → St → Hp → (St → Hp → Prop) → Prop
noncomputable abbrev TGs := List V → St → Hp → (St → Hp → Prop) → Prop
noncomputable def PG (X : Cx) (target : Expr) (t : TG) : Prop :=
  ∀ (pins : List (Addr × Obj)) (s : Shared) (σ : St) (H : Hp) (v : V) (u : Value) (Q : St → Hp → Prop), Inv X pins σ H s → RelV v u → t v σ H Q →
    wpAny (model X.prog X.w) X.A (assign target X.env u) (fun _ s' => ∃ σ' H', Inv X pins σ' H' s' ∧ Q σ' H') X.xe s
/-- several targets, one after another -/
noncomputable def PGs (X : Cx) (ts : List Expr) (t : TGs) : Prop :=
  ∀ (pins : List (Addr × Obj)) (s : Shared) (σ : St) (H : Hp) (vs : List V) (us : List Value) (Q : St → Hp → Prop), Inv X pins σ H s → Vals vs us → t vs σ H Q →
    wpAny (model X.prog X.w) X.A (assignInOrder ((assignEach ts X.env).map (·.2)) us) (fun _ s' => ∃ σ' H', Inv X pins σ' H' s' ∧ Q σ' H') X.xe s
section
variable {X : Cx} {pos : Pos}
noncomputable def gName (i : Nat) : TG := fun v σ H Q => Q (σ.set i (some v)) H
theorem pg_name {i : Nat} {x : Str} (hN : X.N.Nodup) (hi : X.N[i]? = some x) (hx : Loc X.env.scope x) (hf : X.fn x = true ∨ X.env.scope.names.lookup x = some .local := by first | exact .inl rfl | exact .inr rfl | assumption) : PG X (.Name x pos) (gName i) := by
  intro pins s σ H v u Q I r h
  exact wpAny_assign_Name (store_ok I hN hi hx r (fun s' I' => ⟨_, H, I', h⟩) hf)
noncomputable def gNil : TGs := fun vs σ H Q => vs = [] ∧ Q σ H
noncomputable def gCons (t : TG) (u : TGs) : TGs := fun vs σ H Q => ∃ v r, vs = v :: r ∧ t v σ H fun σ' H' => u r σ' H' Q
theorem pgs_nil : PGs X [] gNil := by
  intro pins s σ H vs us Q I r h
  obtain ⟨e, h⟩ := h
  subst e
  cases r
  exact assignInOrder_nil ⟨σ, H, I, h⟩
theorem pgs_cons {e : Expr} {es : List Expr} {t : TG} {u : TGs} (h1 : PG X e t) (h2 : PGs X es u)
    (hs : (assignEach (e :: es) X.env).map (·.2) = assign e X.env :: (assignEach es X.env).map (·.2) := by rfl) : PGs X (e :: es) (gCons t u) := by
  intro pins s σ H vs us Q I r h
  obtain ⟨v, vr, e1, h⟩ := h
  subst e1
  cases r with
  | cons r rr =>
    rw [hs]
    refine assignInOrder_cons (thn (h1 pins s σ H _ _ _ I r h) fun _ s1 ⟨σ1, H1, I1, q1⟩ => ?_)
    exact h2 pins s1 σ1 H1 _ _ Q I1 rr q1
/-- (a, b, ..) = a tuple of that length -/
noncomputable def gTup (K : PySem.W.Frag) (n : Nat) (t : TGs) : TG := fun v σ H Q => ∃ a xs, v = .ref a ∧ SqT K H a xs ∧ xs.length = n ∧ t xs σ H Q
theorem pg_tup {es : List Expr} {k : Nat} {t : TGs} {n : Nat} (hc : X.calm = true) (h : PGs X es t)
    (hn : (assignEach es X.env).length = n := by rfl) (hst : (assignEach es X.env).findIdx? (·.1) = none := by rfl) : PG X (.Tuple es k pos) (gTup X.K n t) := by
  intro pins s σ H v u Q I r hw
  obtain ⟨a, xs, e1, hq, hl, hw⟩ := hw
  subst e1
  cases r
  obtain ⟨its, rv, ht, hz⟩ := I.tuple hq
  refine assign_Tuple_tuple (I.ok.hd hc) ht (by simp [hn, ← hl, rv.length]) hst fun h' hx => ?_
  have I1 : Inv X pins σ H { s with heap := h' } := I.kept (t' := s.toks) fun b o e => hx b o (Nat.ne_of_lt (Heap.lt_size e)) e
  exact h pins _ σ H xs _ Q I1 (by simpa using rv) hw
/-- target = value -/
noncomputable def tAsg (te : TE) (g : TG) : TS := fun D σ H => te σ H fun x H1 => g x σ H1 D.nx
theorem ps_asg {tg e : Expr} {te : TE} {g : TG} (he : PE X e te) (hg : PG X tg g) (hs : swapsWithSole [tg] e pos.line X.env = pure false := by rfl) (hw : swappedStores [tg] e X.env = pure none := by rfl)
    (h1 : (assignEach [tg] X.env).map (·.2) = [assign tg X.env] := by rfl) : PS X (.Assign [tg] e pos) (tAsg te g) := by
  intro pins s σ H D I h
  refine wpAny_Assign_stores (thn (he pins s σ H _ I h) fun v s1 ⟨x, H1, I1, r1, q1⟩ => ?_) hs hw
  rw [h1]
  exact thn (hg pins s1 σ H1 x v _ I1 r1 q1) fun _ s2 q => q
/-- name = value -/
theorem ps_set {i : Nat} {x : Str} {e : Expr} {te : TE} {pos' : Pos} (hN : X.N.Nodup) (hi : X.N[i]? = some x) (hx : Loc X.env.scope x) (he : PE X e te) (hs : swapsWith e (some (.Name x pos')) pos.line X.env = pure false := by rfl) (hf : X.fn x = true ∨ X.env.scope.names.lookup x = some .local := by first | exact .inl rfl | exact .inr rfl | assumption) :
    PS X (.Assign [.Name x pos'] e pos) (tAsg te (gName i)) := by
  intro pins s σ H D I h
  refine wpAny_Assign_Name (thn (he pins s σ H _ I h) fun v s1 ⟨y, H1, I1, r1, q1⟩ => ?_) hs
  exact store_ok I1 hN hi hx r1 (fun s2 I2 => ⟨_, H1, I2, q1⟩) hf
/-- a, b = x, y with plain local names: stored from the right; the pair itself is not tracked (the opening rows as in PyProof/Rows/TupAssign.lean:23) -/
noncomputable def tPar (i j : Nat) (ta : TA) : TS := fun D σ H => ta σ H fun vs H1 => ∃ v w, vs = [v, w] ∧ D.nx ((σ.set i (some v)).set j (some w)) H1
theorem ps_par {i j : Nat} {x y : Str} {a b : Expr} {ta : TA} {px py pt : Pos} {kt k2 pt2} (hc : X.calm = true) (hN : X.N.Nodup) (hi : X.N[i]? = some x) (hj : X.N[j]? = some y) (hij : i ≠ j)
    (hx : X.env.scope.names.lookup x = some .local) (hy : X.env.scope.names.lookup y = some .local) (ha : PA X [a, b] ta)
    (hw : swappedStores [.Tuple [.Name x px, .Name y py] kt pt] (.Tuple [a, b] k2 pt2) X.env = pure (some [x, y]))
    (hs : swapsWithSole [.Tuple [.Name x px, .Name y py] kt pt] (.Tuple [a, b] k2 pt2) pos.line X.env = pure false := by rfl) :
    PS X (.Assign [.Tuple [.Name x px, .Name y py] kt pt] (.Tuple [a, b] k2 pt2) pos) (tPar i j ta) := by
  intro pins s σ H D I h
  rw [exec_Assign_arm]
  refine wpAny_bind (wpAny_standAt ?_)
  rw [hs]
  refine wpAny_bind (wpAny_pure ?_)
  rw [if_neg (by decide)]
  refine wpAny_bind (Tuple_ (thn (ha _ pins s σ H _ I h) fun us s1 ⟨vs, H1, I1, r1, q1⟩ => ?_))
  obtain ⟨v, w, e1, q1⟩ := q1
  subst e1
  obtain ⟨u1, u2, rfl, rv, rw'⟩ : ∃ u1 u2, us = [u1, u2] ∧ RelV v u1 ∧ RelV w u2 := by
    cases r1 with
    | cons p q =>
      cases q with
      | cons p' q' =>
        cases q'
        exact ⟨_, _, rfl, p, p'⟩
  refine wpAny_newObj_type ?_ (by show 2 ≤ sizeLine; decide)
  have I2 : Inv X pins σ H1 { s1 with heap := s1.heap.push { cls := .type "tuple", data := .seq [u1, u2].toArray } } := I1.kept (t' := s1.toks) fun b o e => Heap.get?_push_of_some _ e
  rw [hw]
  refine wpAny_bind (wpAny_pure ?_)
  show wpAny (model X.prog X.w) X.A (do rule "assign.swapped-stores"; let items ← unpackItems (.ref s1.heap.objs.size) 2 none; assignInOrder [fun v => bindName X.env y v, fun v => bindName X.env x v] items.reverse; pure Flow.next) _ _ _
  refine wpAny_bind (wpAny_rule (wpAny_bind (unpackItems_tuple (items := #[u1, u2]) (I.ok.hd hc) (IsTup.new s1.heap _) fun h' hx' => ?_)))
  have I3 := I2.kept (h' := h') (t' := s1.toks) fun b o e => hx' b o (Nat.ne_of_lt (Heap.lt_size e)) e
  show wpAny _ _ (assignInOrder [fun v => bindName X.env y v, fun v => bindName X.env x v] [u2, u1] >>= fun _ => pure Flow.next) _ _ _
  refine wpAny_bind (assignInOrder_cons (wpAny_bindName (store_ok I3 hN hj (.inl hy) rw' (fun s2 I4 => ?_) (.inr hy))))
  refine assignInOrder_cons (wpAny_bindName (store_ok I4 hN hi (.inl hx) rv (fun s3 I5 => assignInOrder_nil (wpAny_pure ?_)) (.inr hx)))
  rw [List.set_comm _ _ (Ne.symm hij)] at I5
  exact ⟨_, H1, I5, q1⟩
end

/-! ### while -/
section
variable {X : Cx} {pos : Pos}
/-- the invariant W with its measure -/
noncomputable def tWhile (c : TT) (tb : TS) : TS := fun D σ H => ∃ W : Nat → St → Hp → Prop, (∃ m, W m σ H) ∧ ∀ m σ H, W m σ H →
  c σ H fun b H1 => if b = true then ∃ N : St → Hp → Prop, (∀ σ' H', N σ' H' → ∃ m', m' < m ∧ W m' σ' H') ∧ tb { D with nx := N, ct := N, bk := D.nx } σ H1 else D.nx σ H1
theorem ps_while {c : Expr} {body : List Stmt} {tc : TT} {tb : TS} (hp : PassesOwn (model X.prog X.w) X.A X.env X.xe) (hc : PT X c tc) (hb : PSs X body tb) : PS X (.While c body [] pos) (tWhile tc tb) := by
  intro pins s σ H D I h
  obtain ⟨W, ⟨m0, w0⟩, turn⟩ := h
  refine wpAny_While (codeAny_whileLoop (fun n s' => ∃ σ' H', Inv X pins σ' H' s' ∧ W n σ' H') ?_ m0 ⟨σ, H, I, w0⟩)
  rintro n s1 ⟨σ1, H1, I1, w1⟩
  refine wpAny_passesOwn hp (thn (hc pins s1 σ1 H1 _ I1 (turn n σ1 H1 w1)) fun b s2 ⟨H2, I2, q2⟩ => ?_)
  cases b with
  | true =>
    obtain ⟨N, hN, q2⟩ := q2
    rw [if_pos rfl]
    refine wpAny_passesOwn hp (thn (hb pins s2 σ1 H2 _ I2 q2) fun f s3 q3 => ?_)
    cases f with
    | next =>
      obtain ⟨σ3, H3, I3, n3⟩ := q3
      obtain ⟨m', hm, w3⟩ := hN σ3 H3 n3
      exact ⟨m', hm, σ3, H3, I3, w3⟩
    | cont =>
      obtain ⟨σ3, H3, I3, n3⟩ := q3
      obtain ⟨m', hm, w3⟩ := hN σ3 H3 n3
      exact ⟨m', hm, σ3, H3, I3, w3⟩
    | brk => exact q3
    | ret v => exact q3
  | false =>
    rw [if_neg Bool.false_ne_true]
    exact wpAny_execs_nil ⟨σ1, H2, I2, q2⟩
end

/-! ### what a loop or a comprehension walks -/
/-- at turn i: it yields x (the heap may grow), or it stops -/
structure It where
  go : Nat → Hp → Prop
  yld : Nat → Hp → V → Hp → Prop
  stop : Nat → Hp → Prop
/-- the iterator's own objects may turn: they are not the frame's, not pinned, younger than the entry (or a comprehension's own) -/
noncomputable def FpOk (X : Cx) (pins : List (Addr × Obj)) (H : Hp) (b : Addr) : Prop :=
  H b = none ∧ b ≠ X.env.locals ∧ b ∉ X.fs ∧ (b ∈ X.ex ∨ X.s₀.heap.objs.size ≤ b) ∧ (∀ x c, X.env.cells.lookup x = some c → c ≠ b) ∧ ∀ p ∈ X.pn ++ pins, p.1 ≠ b
theorem Inv.fpOk {X : Cx} {pins : List (Addr × Obj)} {σ : St} {H H' : Hp} {s : Shared} {b : Addr} (I : Inv X pins σ H s) (hb : s.heap.objs.size ≤ b) (hn : H' b = none) : FpOk X pins H' b := by
  refine ⟨hn, Nat.ne_of_gt (Nat.lt_of_lt_of_le I.lt hb), I.nofs hb, .inr (Nat.le_trans I.sz hb), fun x c e z => ?_, fun p hp z => ?_⟩
  · obtain ⟨v, q⟩ := I.cell x c e
    exact absurd (Nat.lt_of_lt_of_le q.lt (by rw [z]; exact hb)) (Nat.lt_irrefl _)
  · exact absurd (Nat.lt_of_lt_of_le (Heap.lt_size (I.pin p hp).1) (by rw [z]; exact hb)) (Nat.lt_irrefl _)
structure Turn (P : Program) (w : World) (K : PySem.W.Frag) (tg : Expr) (J : It) (fp : List Addr) (it : Addr) (tn : Nat → Heap → Prop) : Prop where
  mem : it ∈ fp
  obj : ∀ i h, tn i h → ∀ b ∈ fp, ∃ o, h.get? b = some o ∧ ∀ v, o.data ≠ .cell v
  keep : ∀ i h h', tn i h → (∀ b ∈ fp, ∀ o, h.get? b = some o → h'.get? b = some o) → tn i h'
  item : ∀ (X : Cx), X.prog = P → X.w = w → X.K = K → X.calm = true → ∀ (i : Nat) (pins : List (Addr × Obj)) (s : Shared) (σ : St) (H : Hp) (E : Value → Shared → Prop), Inv X pins σ H s → (∀ b ∈ fp, FpOk X pins H b) → tn i s.heap → J.go i H →
    wpAny (model P w) X.A (pyNext (.ref it)) (fun r s1 => ∃ u, r = some u ∧
      wpAny (model P w) X.A (letOwnedTupleGo tg (.ref it) u) (fun _ s2 => ∃ x H', Inv X pins σ H' s2 ∧ RelV x u ∧ J.yld i H x H' ∧ tn (i + 1) s2.heap ∧ ∀ b ∈ fp, H' b = none) E s1) E s
  done : ∀ (X : Cx), X.prog = P → X.w = w → X.K = K → X.calm = true → ∀ (i : Nat) (pins : List (Addr × Obj)) (s : Shared) (σ : St) (H : Hp) (E : Value → Shared → Prop), Inv X pins σ H s → (∀ b ∈ fp, FpOk X pins H b) → tn i s.heap → J.stop i H →
    wpAny (model P w) X.A (pyNext (.ref it)) (fun r s1 => r = none ∧ Inv X pins σ H s1) E s
  self : ∀ (A : Around) (i : Nat) (s : Shared) (Q : Value → Shared → Prop) (E : Value → Shared → Prop), tn i s.heap → Q (.ref it) s → wpAny (model P w) A (pyIter (.ref it)) Q E s
noncomputable abbrev TI := St → Hp → (It → Hp → Prop) → Prop
/-- an iterator has come -/
noncomputable def PIE (X : Cx) (pins : List (Addr × Obj)) (σ : St) (tg : Expr) (R : It → Hp → Prop) (itv : Value) (s2 : Shared) : Prop :=
  ∃ (it : Addr) (fp : List Addr) (tn : Nat → Heap → Prop) (J : It) (H' : Hp), itv = .ref it ∧ Inv X pins σ H' s2 ∧ Turn X.prog X.w X.K tg J fp it tn ∧ tn 0 s2.heap ∧ (∀ b ∈ fp, FpOk X pins H' b) ∧ R J H'
noncomputable def PI (X : Cx) (tg iter : Expr) (wi : TI) : Prop :=
  ∀ (pins : List (Addr × Obj)) (s : Shared) (σ : St) (H : Hp) (R : It → Hp → Prop), Inv X pins σ H s → wi σ H R →
    wpAny (model X.prog X.w) X.A (eval iter X.env) (fun v s1 => wpAny (model X.prog X.w) X.A (pyIter v) (PIE X pins σ tg R) X.xe s1) X.xe s

/-- the step ahead of the store is nothing for an iterator that keeps no tuple -/
theorem go_of {M : Model} {A : Around} {E : Value → Shared → Prop} {s : Shared} {tg : Expr} {it : Addr} {u : Value} {o : Obj} {n : String} {vs : Array Value} {Q : Unit → Shared → Prop} (ho : s.heap.get? it = some o) (hc : o.cls = .type n) (hd : o.data = .fields vs)
    (hn : ["enumerate", "zip", "dict_itemiterator", "dict_reverseitemiterator", "odict_iterator", "itertools.zip_longest", "itertools.pairwise"].contains n = false) (hQ : Q () s) : wpAny M A (letOwnedTupleGo tg (.ref it) u) Q E s := by
  unfold letOwnedTupleGo
  cases tg <;> first
    | exact wpAny_pure hQ
    | (cases u <;> first
        | exact wpAny_pure hQ
        | (refine wpAny_bind (wpAny_load ho ?_)
           rw [hc, hd]
           show wpAny M A (if (["enumerate", "zip", "dict_itemiterator", "dict_reverseitemiterator", "odict_iterator", "itertools.zip_longest", "itertools.pairwise"].contains n && vs[0]? == some (rawInt _)) = true then _ else _) Q E s
           rw [if_neg (by intro h; rw [hn, Bool.false_and] at h; cases h)]
           exact wpAny_pure hQ))

/-- the list at a, as it stands at each turn (a loop may append to it) -/
noncomputable def Itl (K : PySem.W.Frag) (a : Addr) : It :=
  ⟨fun i H => ∃ xs x, SqL K H a xs ∧ xs[i]? = some x, fun i H x H' => H' = H ∧ ∀ xs, SqL K H a xs → xs[i]? = some x, fun i H => ∃ xs, SqL K H a xs ∧ xs.length ≤ i⟩
noncomputable def Itt (K : PySem.W.Frag) (a : Addr) : It :=
  ⟨fun i H => ∃ xs x, SqT K H a xs ∧ xs[i]? = some x, fun i H x H' => H' = H ∧ ∀ xs, SqT K H a xs → xs[i]? = some x, fun i H => ∃ xs, SqT K H a xs ∧ xs.length ≤ i⟩
/-- lo, lo + 1, .. (n of them) -/
noncomputable def Itr (lo : Int) (n : Nat) : It := ⟨fun i _ => i < n, fun i H x H' => H' = H ∧ x = .int (lo + i), fun i _ => n ≤ i⟩
theorem turn_list {P : Program} {w : World} {K : PySem.W.Frag} {tg : Expr} (a it : Addr) : Turn P w K tg (Itl K a) [it] it (fun i h => h.IsListIter it a i) where
  mem := by simp
  obj := fun i h st b hb => by
    have e : b = it := by simpa using hb
    subst e
    obtain ⟨o, e, c, d⟩ := st
    exact ⟨o, e, fun v z => by rw [d] at z; cases z⟩
  keep := fun i h h' st k => st.at fun o e => k it (by simp) o e
  item := by
    intro X hP hw hK hc i pins s σ H E I hf st hg
    subst hP hw hK
    obtain ⟨xs, x, hq, hx⟩ := hg
    obtain ⟨its, rv, p, hz⟩ := I.list hq
    obtain ⟨u, hu, ru⟩ := rv.get hx
    obtain ⟨f0, f1, f2, f3, f4, f5⟩ := hf it (by simp)
    refine wpAny_pyNext_list_item st p.isList (x := u) (by simpa using hu) fun h' st' sb => ?_
    have I1 : Inv X pins σ H { s with heap := h' } := I.turned (t' := s.toks) (fun b o hb e => (sb.2 b hb).trans e) f0 f1 f3 f4 f5
    obtain ⟨o, e, c, d⟩ := id st'
    exact ⟨u, rfl, go_of (s := { s with heap := h' }) e c d (by decide) ⟨x, H, I1, ru, ⟨rfl, fun ys hy => by rw [I.list_inj hy hq]; exact hx⟩, st', fun b hb => (hf b hb).1⟩⟩
  done := by
    intro X hP hw hK hc i pins s σ H E I hf st hg
    subst hP hw hK
    obtain ⟨xs, hq, hx⟩ := hg
    obtain ⟨its, rv, p, hz⟩ := I.list hq
    obtain ⟨f0, f1, f2, f3, f4, f5⟩ := hf it (by simp)
    have hl := rv.length
    exact wpAny_pyNext_list_end (I.ok.hd hc) st p.isList (by simp; omega) fun h' eb => ⟨rfl, I.turned (t' := s.toks) (fun b o hb e => eb b o hb e) f0 f1 f3 f4 f5⟩
  self := fun _ _ _ _ _ st h => wpAny_pyIter_listiter st h
theorem turn_tuple {P : Program} {w : World} {K : PySem.W.Frag} {tg : Expr} (a it : Addr) : Turn P w K tg (Itt K a) [it] it (fun i h => h.IsTupleIter it a i) where
  mem := by simp
  obj := fun i h st b hb => by
    have e : b = it := by simpa using hb
    subst e
    obtain ⟨o, e, c, d⟩ := st
    exact ⟨o, e, fun v z => by rw [d] at z; cases z⟩
  keep := fun i h h' st k => st.at fun o e => k it (by simp) o e
  item := by
    intro X hP hw hK hc i pins s σ H E I hf st hg
    subst hP hw hK
    obtain ⟨xs, x, hq, hx⟩ := hg
    obtain ⟨its, rv, p, hz⟩ := I.tuple hq
    obtain ⟨u, hu, ru⟩ := rv.get hx
    obtain ⟨f0, f1, f2, f3, f4, f5⟩ := hf it (by simp)
    refine wpAny_pyNext_tuple_item st (show s.heap.IsTuple a its.toArray from p) (x := u) (by simpa using hu) fun h' st' sb => ?_
    have I1 : Inv X pins σ H { s with heap := h' } := I.turned (t' := s.toks) (fun b o hb e => (sb.2 b hb).trans e) f0 f1 f3 f4 f5
    obtain ⟨o, e, c, d⟩ := id st'
    exact ⟨u, rfl, go_of (s := { s with heap := h' }) e c d (by decide) ⟨x, H, I1, ru, ⟨rfl, fun ys hy => by rw [I.tuple_inj hy hq]; exact hx⟩, st', fun b hb => (hf b hb).1⟩⟩
  done := by
    intro X hP hw hK hc i pins s σ H E I hf st hg
    subst hP hw hK
    obtain ⟨xs, hq, hx⟩ := hg
    obtain ⟨its, rv, p, hz⟩ := I.tuple hq
    obtain ⟨f0, f1, f2, f3, f4, f5⟩ := hf it (by simp)
    have hl := rv.length
    exact wpAny_pyNext_tuple_end (I.ok.hd hc) st (show s.heap.IsTuple a its.toArray from p) (by simp; omega) fun h' eb => ⟨rfl, I.turned (t' := s.toks) (fun b o hb e => eb b o hb e) f0 f1 f3 f4 f5⟩
  self := fun _ _ _ _ _ st h => wpAny_pyIter_tupleiter st h
theorem turn_range {P : Program} {w : World} {K : PySem.W.Frag} {tg : Expr} (it : Addr) (lo : Int) (n : Nat) : Turn P w K tg (Itr lo n) [it] it (fun i h => IsRangeIter h it (lo + (i : Nat) * 1) ((n : Int) - (i : Nat)) 1) where
  mem := by simp
  obj := fun i h st b hb => by
    have e : b = it := by simpa using hb
    subst e
    exact ⟨_, st, fun v z => by
      have z' : Data.fields _ = Data.cell v := z
      cases z'⟩
  keep := fun i h h' st k => k it (by simp) _ st
  item := by
    intro X hP hw hK hc i pins s σ H E I hf st hg
    subst hP hw hK
    obtain ⟨f0, f1, f2, f3, f4, f5⟩ := hf it (by simp)
    have W := Walks.range (prog := X.prog) (w := X.w) (I.ok.hd hc) it lo 1 n
    refine W.item i s _ _ hg st fun v h' tk hv st' kk => ?_
    obtain ⟨t, rfl⟩ := hv
    have I1 : Inv X pins σ H { s with heap := h', toks := tk } := I.turned (fun b o hb e => kk b o (by simpa using hb) e) f0 f1 f3 f4 f5
    refine ⟨_, rfl, go_of (s := { s with heap := h', toks := tk }) (n := "range_iterator") st' rfl rfl (by decide) ⟨.int (lo + i), H, I1, ⟨t, ?_⟩, ⟨rfl, rfl⟩, st', fun b hb => (hf b hb).1⟩⟩
    rw [Int.mul_one]
  done := by
    intro X hP hw hK hc i pins s σ H E I hf st hg
    subst hP hw hK
    obtain ⟨f0, f1, f2, f3, f4, f5⟩ := hf it (by simp)
    exact wpAny_pyNext_range_end (I.ok.hd hc) st (by have : n ≤ i := hg; omega) fun h' eb => ⟨rfl, I.turned (t' := s.toks) (fun b o hb e => eb b o hb e) f0 f1 f3 f4 f5⟩
  self := fun _ _ _ _ _ st h => wpAny_pyIter_rangeiter st h
end L2

namespace L2
open PySem PySem.Spec PyProof.Rows
section
variable {X : Cx} {tg : Expr}
noncomputable def iList (K : PySem.W.Frag) (tl : TE) : TI := fun σ H R => tl σ H fun x H1 => ∃ a, x = .ref a ∧ (∃ xs, SqL K H1 a xs) ∧ R (Itl K a) H1
noncomputable def iTup (K : PySem.W.Frag) (tl : TE) : TI := fun σ H R => tl σ H fun x H1 => ∃ a, x = .ref a ∧ (∃ xs, SqT K H1 a xs) ∧ R (Itt K a) H1
theorem pi_list {l : Expr} {tl : TE} (hl : PE X l tl) : PI X tg l (iList X.K tl) := by
  intro pins s σ H R I h
  refine thn (hl pins s σ H _ I h) fun v s1 ⟨x, H1, I1, r1, q1⟩ => ?_
  obtain ⟨a, e, ⟨xs, hq⟩, q⟩ := q1
  subst e
  cases r1
  obtain ⟨its, rv, p, hz⟩ := I1.list hq
  refine wpAny_pyIter_list p.isList ?_
  refine ⟨s1.heap.objs.size, [s1.heap.objs.size], _, _, H1, rfl, I1.kept (t' := s1.toks) fun b o e => Heap.get?_push_of_some _ e, turn_list a _, ⟨_, Heap.get?_push_size _ rfl, rfl, rfl⟩, fun b hb => ?_, q⟩
  have e : b = s1.heap.objs.size := by simpa using hb
  subst e
  exact I1.fpOk (Nat.le_refl _) (I1.hok.fresh (Nat.le_refl _))
theorem pi_tup {l : Expr} {tl : TE} (hl : PE X l tl) : PI X tg l (iTup X.K tl) := by
  intro pins s σ H R I h
  refine thn (hl pins s σ H _ I h) fun v s1 ⟨x, H1, I1, r1, q1⟩ => ?_
  obtain ⟨a, e, ⟨xs, hq⟩, q⟩ := q1
  subst e
  cases r1
  obtain ⟨its, rv, p, hz⟩ := I1.tuple hq
  refine wpAny_pyIter_tuple (show s1.heap.IsTuple a its.toArray from p) ?_
  refine ⟨s1.heap.objs.size, [s1.heap.objs.size], _, _, H1, rfl, I1.kept (t' := s1.toks) fun b o e => Heap.get?_push_of_some _ e, turn_tuple a _, ⟨_, Heap.get?_push_size _ rfl, rfl, rfl⟩, fun b hb => ?_, q⟩
  have e : b = s1.heap.objs.size := by simpa using hb
  subst e
  exact I1.fpOk (Nat.le_refl _) (I1.hok.fresh (Nat.le_refl _))
/-- a range object just made, walked -/
theorem range_it {pins : List (Addr × Obj)} {σ : St} {H : Hp} {s : Shared} {R : It → Hp → Prop} {E : Value → Shared → Prop} {lo hi : Int} {t u v : Tok} {tk : Nat} (I : Inv X pins σ H s) (h1 : -(2 ^ 62) ≤ lo) (h2 : lo < 2 ^ 62) (h3 : -(2 ^ 62) ≤ hi) (h4 : hi < 2 ^ 62)
    (q : R (Itr lo (hi - lo).toNat) H) : wpAny (model X.prog X.w) X.A (pyIter (.ref s.heap.objs.size)) (PIE X pins σ tg R) E { s with heap := s.heap.push { cls := .type "range", data := .fields #[.int lo t, .int hi u, .int 1 v] }, toks := tk } := by
  refine wpAny_pyIter_range (IsRange.new ..) (small_one h1 h2 h3 h4) ?_
  have I1 : Inv X pins σ H { s with heap := s.heap.push { cls := .type "range", data := .fields #[.int lo t, .int hi u, .int 1 v] }, toks := tk } := I.kept fun b o e => Heap.get?_push_of_some _ e
  refine ⟨(s.heap.push { cls := .type "range", data := .fields #[.int lo t, .int hi u, .int 1 v] }).objs.size, [(s.heap.push { cls := .type "range", data := .fields #[.int lo t, .int hi u, .int 1 v] }).objs.size], _, _, H, rfl,
    I1.kept (t' := tk) fun b o e => Heap.get?_push_of_some _ e, turn_range _ lo (hi - lo).toNat, ?_, fun b hb => ?_, q⟩
  · have e1 : lo + ((0 : Nat) : Int) * 1 = lo := by simp
    have e2 : (((hi - lo).toNat : Nat) : Int) - ((0 : Nat) : Int) = Builtin.Range.rangeSize lo hi 1 := by rw [rangeSize_one]; split <;> omega
    show IsRangeIter _ _ (lo + ((0 : Nat) : Int) * 1) ((((hi - lo).toNat : Nat) : Int) - ((0 : Nat) : Int)) 1
    rw [e1, e2]
    exact Heap.get?_push_size _ rfl
  · have e : b = (s.heap.push { cls := .type "range", data := .fields #[.int lo t, .int hi u, .int 1 v] }).objs.size := by simpa using hb
    subst e
    exact I1.fpOk (Nat.le_refl _) (I1.hok.fresh (Nat.le_refl _))
noncomputable def iRng1 (ta : TA) : TI := fun σ H R => ta σ H fun vs H1 => ∃ j : Int, vs = [.int j] ∧ -(2 ^ 62) ≤ j ∧ j < 2 ^ 62 ∧ R (Itr 0 j.toNat) H1
theorem pi_range1 {a : Expr} {ta : TA} {p pos : Pos} (hg : Gl X "range") (hm : X.mg "range" = none) (ha : PA X [a] ta) (hs : starEach [a] X.env = [(false, eval a X.env)] := by rfl) : PI X tg (.Call (.Name "range" p) [a] [] pos) (iRng1 ta) := by
  intro pins s σ H R I h
  refine Call_ (ld_blt I hg hm boot_range (PyProof.Rows.callWith_type1 (thn (ha pos pins s σ H _ I h) fun us s1 ⟨vs, H1, I1, r1, q1⟩ => ?_) hs rfl))
  obtain ⟨j, e, q1, q2, q⟩ := q1
  subst e
  cases r1 with
  | cons r rr =>
    cases rr
    obtain ⟨t, rfl⟩ := r
    exact call_range_1 (range_it I1 (by omega) (by omega) q1 q2 (by simpa using q))
/-! ### for -/
/-- W: the invariant by the turn and a measure; N: what the body is to reach -/
noncomputable def tFor (wi : TI) (g : TG) (tb : TS) : TS := fun D σ H => wi σ H fun J H1 => ∃ W : Nat → Nat → St → Hp → Prop, (∃ m, W 0 m σ H1) ∧ ∀ i m σ H, W i m σ H →
  (J.stop i H ∧ D.nx σ H) ∨ (J.go i H ∧ ∃ N : St → Hp → Prop, (∀ σ' H', N σ' H' → ∃ m', m' < m ∧ W (i + 1) m' σ' H') ∧ ∀ x H', J.yld i H x H' → g x σ H' fun σ2 H2 => tb { D with nx := N, ct := N, bk := D.nx } σ2 H2)
/-- the records at fp as they stand -/
noncomputable def pinsAt (fp : List Addr) (h : Heap) : List (Addr × Obj) := fp.filterMap fun b => (h.get? b).map fun o => (b, o)
theorem mem_pinsAt {fp : List Addr} {h : Heap} {b : Addr} {o : Obj} (hb : b ∈ fp) (e : h.get? b = some o) : (b, o) ∈ pinsAt fp h := List.mem_filterMap.mpr ⟨b, hb, by rw [e]; rfl⟩
theorem of_pinsAt {fp : List Addr} {h : Heap} {p : Addr × Obj} (hp : p ∈ pinsAt fp h) : p.1 ∈ fp ∧ h.get? p.1 = some p.2 := by
  obtain ⟨b, hb, e⟩ := List.mem_filterMap.mp hp
  cases q : h.get? b with
  | none => rw [q] at e; cases e
  | some o =>
    rw [q] at e
    have e' : (b, o) = p := Option.some.inj e
    subst e'
    exact ⟨hb, q⟩
theorem Inv.pinned {pins : List (Addr × Obj)} {σ : St} {H : Hp} {s : Shared} {fp : List Addr} (I : Inv X pins σ H s) (hf : ∀ b ∈ fp, FpOk X pins H b) (ho : ∀ b ∈ fp, ∃ o, s.heap.get? b = some o ∧ ∀ v, o.data ≠ .cell v) : Inv X (pins ++ pinsAt fp s.heap) σ H s :=
  I.pins_of fun p hp => (List.mem_append.mp hp).elim (fun z => I.pin p (List.mem_append_right _ z)) fun z => by
    obtain ⟨hb, e⟩ := of_pinsAt z
    obtain ⟨f0, f1, f2, _⟩ := hf p.1 hb
    obtain ⟨o, e', d⟩ := ho p.1 hb
    rw [e] at e'; cases e'
    exact ⟨e, f0, f1, f2, d⟩
theorem Inv.unpinned {pins pl : List (Addr × Obj)} {σ : St} {H : Hp} {s : Shared} (I : Inv X (pins ++ pl) σ H s) : Inv X pins σ H s := I.pins_of fun p hp => I.pin p (List.mem_append_right _ (List.mem_append_left _ hp))
theorem ps_for {iter : Expr} {body : List Stmt} {wi : TI} {g : TG} {tb : TS} {pos : Pos} (hp : PassesOwn (model X.prog X.w) X.A X.env X.xe) (hc : X.calm = true) (hi : PI X tg iter wi) (hg : PG X tg g) (hb : PSs X body tb)
    (hs : ∀ x, foldedSetIterable iter X.env x = pure x := by intro _; rfl) : PS X (.For tg iter body [] pos) (tFor wi g tb) := by
  intro pins s σ H D I h
  refine wpAny_For (thn (hi pins s σ H _ I h) fun v s1 h1 => thn h1 fun itv s2 h2 => ?_) hs
  obtain ⟨it, fp, tn, J, H2, e, I2, T, st2, f2, W, ⟨m0, w0⟩, turn⟩ := h2
  subst e
  -- what stays true of the iterator's objects through the loop
  have stat : ∀ {H' : Hp}, (∀ b ∈ fp, H' b = none) → ∀ b ∈ fp, FpOk X pins H' b := fun hn b hb => ⟨hn b hb, (f2 b hb).2⟩
  refine codeAny_forLoop_any (fun n s' => ∃ i σ' H', Inv X pins σ' H' s' ∧ tn i s'.heap ∧ (∀ b ∈ fp, H' b = none) ∧ W i n σ' H') ?_ m0 ⟨0, σ, H2, I2, st2, fun b hb => (f2 b hb).1, w0⟩
  rintro n s3 ⟨i, σ3, H3, I3, st3, fr3, w3⟩
  rcases turn i n σ3 H3 w3 with ⟨stop, qn⟩ | ⟨go, N, hN, step⟩
  · refine wpAny_passesOwn hp (thn (T.done X rfl rfl rfl hc i pins s3 σ3 H3 X.xe I3 (stat fr3) st3 stop) fun r s4 ⟨hr, I4⟩ => ?_)
    subst hr
    exact wpAny_execs_nil ⟨σ3, H3, I4, qn⟩
  · refine wpAny_passesOwn hp (thn (T.item X rfl rfl rfl hc i pins s3 σ3 H3 X.xe I3 (stat fr3) st3 go) fun r s4 ⟨u, hr, h4⟩ => ?_)
    subst hr
    refine wpAny_passesOwn hp (thn h4 fun _ s5 ⟨x, H5, I5, r5, y5, st5, fr5⟩ => ?_)
    have I5' := I5.pinned (stat fr5) (T.obj _ _ st5)
    refine wpAny_passesOwn hp (thn (hg _ s5 σ3 H5 x u _ I5' r5 (step x H5 y5)) fun _ s6 ⟨σ6, H6, I6, q6⟩ => ?_)
    refine wpAny_passesOwn hp (thn (hb _ s6 σ6 H6 _ I6 q6) fun f s7 q7 => ?_)
    have again : ∀ {σ7 : St} {H7 : Hp}, Inv X (pins ++ pinsAt fp s5.heap) σ7 H7 s7 → N σ7 H7 → ∃ m, m < n ∧ ∃ i σ' H', Inv X pins σ' H' s7 ∧ tn i s7.heap ∧ (∀ b ∈ fp, H' b = none) ∧ W i m σ' H' := fun {σ7 H7} I7 n7 => by
      obtain ⟨m', hm, w7⟩ := hN σ7 H7 n7
      refine ⟨m', hm, i + 1, σ7, H7, I7.unpinned, T.keep _ _ _ st5 fun b hb o e => (I7.pin (b, o) (List.mem_append_right _ (List.mem_append_right _ (mem_pinsAt hb e)))).1, fun b hb => ?_, w7⟩
      obtain ⟨o, e, d⟩ := T.obj _ _ st5 b hb
      exact (I7.pin (b, o) (List.mem_append_right _ (List.mem_append_right _ (mem_pinsAt hb e)))).2.1
    cases f with
    | next => obtain ⟨σ7, H7, I7, n7⟩ := q7; exact again I7 n7
    | cont => obtain ⟨σ7, H7, I7, n7⟩ := q7; exact again I7 n7
    | brk => obtain ⟨σ7, H7, I7, q7⟩ := q7; exact ⟨σ7, H7, I7.unpinned, q7⟩
    | ret v => obtain ⟨x7, σ7, H7, I7, r7, q7⟩ := q7; exact ⟨x7, σ7, H7, I7.unpinned, r7, q7⟩
end

/-! ### the forms one uses -/
/-- over a list that the body leaves as it is -/
theorem for_list {K : PySem.W.Frag} {a : Addr} {xs : List V} {g : TG} {tb : TS} {D : Ends} {σ : St} {H : Hp} (Pv : Nat → St → Hp → Prop) (h0 : Pv 0 σ H) (hl : ∀ i σ H, i ≤ xs.length → Pv i σ H → SqL K H a xs)
    (hs : ∀ i x σ H, xs[i]? = some x → Pv i σ H → g x σ H fun σ2 H2 => tb { D with nx := Pv (i + 1), ct := Pv (i + 1), bk := D.nx } σ2 H2) (hd : ∀ σ H, Pv xs.length σ H → D.nx σ H) :
    ∃ W : Nat → Nat → St → Hp → Prop, (∃ m, W 0 m σ H) ∧ ∀ i m σ H, W i m σ H →
      ((Itl K a).stop i H ∧ D.nx σ H) ∨ ((Itl K a).go i H ∧ ∃ N : St → Hp → Prop, (∀ σ' H', N σ' H' → ∃ m', m' < m ∧ W (i + 1) m' σ' H') ∧ ∀ x H', (Itl K a).yld i H x H' → g x σ H' fun σ2 H2 => tb { D with nx := N, ct := N, bk := D.nx } σ2 H2) := by
  refine ⟨fun i m σ H => m = xs.length - i ∧ i ≤ xs.length ∧ Pv i σ H, ⟨xs.length, by simp, Nat.zero_le _, h0⟩, ?_⟩
  rintro i m σ H ⟨rfl, hi, p⟩
  have q := hl i σ H hi p
  by_cases hlt : i < xs.length
  · refine .inr ⟨⟨xs, xs[i], q, by simp [hlt]⟩, Pv (i + 1), fun σ' H' p' => ⟨xs.length - (i + 1), by omega, rfl, hlt, p'⟩, fun x H' y => ?_⟩
    obtain ⟨e, y⟩ := y
    subst e
    exact hs i x σ _ (y xs q) p
  · have e : i = xs.length := by omega
    subst e
    exact .inl ⟨⟨xs, q, Nat.le_refl _⟩, hd σ H p⟩
theorem for_tup {K : PySem.W.Frag} {a : Addr} {xs : List V} {g : TG} {tb : TS} {D : Ends} {σ : St} {H : Hp} (Pv : Nat → St → Hp → Prop) (h0 : Pv 0 σ H) (hl : ∀ i σ H, i ≤ xs.length → Pv i σ H → SqT K H a xs)
    (hs : ∀ i x σ H, xs[i]? = some x → Pv i σ H → g x σ H fun σ2 H2 => tb { D with nx := Pv (i + 1), ct := Pv (i + 1), bk := D.nx } σ2 H2) (hd : ∀ σ H, Pv xs.length σ H → D.nx σ H) :
    ∃ W : Nat → Nat → St → Hp → Prop, (∃ m, W 0 m σ H) ∧ ∀ i m σ H, W i m σ H →
      ((Itt K a).stop i H ∧ D.nx σ H) ∨ ((Itt K a).go i H ∧ ∃ N : St → Hp → Prop, (∀ σ' H', N σ' H' → ∃ m', m' < m ∧ W (i + 1) m' σ' H') ∧ ∀ x H', (Itt K a).yld i H x H' → g x σ H' fun σ2 H2 => tb { D with nx := N, ct := N, bk := D.nx } σ2 H2) := by
  refine ⟨fun i m σ H => m = xs.length - i ∧ i ≤ xs.length ∧ Pv i σ H, ⟨xs.length, by simp, Nat.zero_le _, h0⟩, ?_⟩
  rintro i m σ H ⟨rfl, hi, p⟩
  have q := hl i σ H hi p
  by_cases hlt : i < xs.length
  · refine .inr ⟨⟨xs, xs[i], q, by simp [hlt]⟩, Pv (i + 1), fun σ' H' p' => ⟨xs.length - (i + 1), by omega, rfl, hlt, p'⟩, fun x H' y => ?_⟩
    obtain ⟨e, y⟩ := y
    subst e
    exact hs i x σ _ (y xs q) p
  · have e : i = xs.length := by omega
    subst e
    exact .inl ⟨⟨xs, q, Nat.le_refl _⟩, hd σ H p⟩
theorem for_range {lo : Int} {n : Nat} {g : TG} {tb : TS} {D : Ends} {σ : St} {H : Hp} (Pv : Nat → St → Hp → Prop) (h0 : Pv 0 σ H)
    (hs : ∀ i σ H, i < n → Pv i σ H → g (.int (lo + i)) σ H fun σ2 H2 => tb { D with nx := Pv (i + 1), ct := Pv (i + 1), bk := D.nx } σ2 H2) (hd : ∀ σ H, Pv n σ H → D.nx σ H) :
    ∃ W : Nat → Nat → St → Hp → Prop, (∃ m, W 0 m σ H) ∧ ∀ i m σ H, W i m σ H →
      ((Itr lo n).stop i H ∧ D.nx σ H) ∨ ((Itr lo n).go i H ∧ ∃ N : St → Hp → Prop, (∀ σ' H', N σ' H' → ∃ m', m' < m ∧ W (i + 1) m' σ' H') ∧ ∀ x H', (Itr lo n).yld i H x H' → g x σ H' fun σ2 H2 => tb { D with nx := N, ct := N, bk := D.nx } σ2 H2) := by
  refine ⟨fun i m σ H => m = n - i ∧ i ≤ n ∧ Pv i σ H, ⟨n, by simp, Nat.zero_le _, h0⟩, ?_⟩
  rintro i m σ H ⟨rfl, hi, p⟩
  by_cases hlt : i < n
  · refine .inr ⟨hlt, Pv (i + 1), fun σ' H' p' => ⟨n - (i + 1), by omega, rfl, hlt, p'⟩, fun x H' y => ?_⟩
    obtain ⟨e, y⟩ := y
    subst e y
    exact hs i σ _ hlt p
  · have e : i = n := by omega
    subst e
    exact .inl ⟨Nat.le_refl _, hd σ H p⟩
end L2

namespace L2
open PySem PySem.Spec PyProof.Rows

noncomputable abbrev R2 := V → V → Hp → VK → Prop
/-- a two-place operation on values: f is binaryOp op, inplaceOp op or compareOp op -/
noncomputable def OpR (X : Cx) (f : Value → Value → Sem Value) (r : R2) : Prop :=
  ∀ (pins : List (Addr × Obj)) (s : Shared) (σ : St) (H : Hp) (x y : V) (v u : Value) (Q : VK), Inv X pins σ H s → RelV x v → RelV y u → r x y H Q →
    wpAny (model X.prog X.w) X.A (f v u) (EP X pins σ Q) X.xe s
/-- a one-place operation -/
noncomputable def UnR (X : Cx) (f : Value → Sem Value) (r : V → Hp → VK → Prop) : Prop :=
  ∀ (pins : List (Addr × Obj)) (s : Shared) (σ : St) (H : Hp) (x : V) (v : Value) (Q : VK), Inv X pins σ H s → RelV x v → r x H Q →
    wpAny (model X.prog X.w) X.A (f v) (EP X pins σ Q) X.xe s
/-- a call of a value that is known (a builtin, a type) with values -/
noncomputable def CallR (X : Cx) (f : Value) (r : List V → Hp → VK → Prop) : Prop :=
  ∀ (pins : List (Addr × Obj)) (s : Shared) (σ : St) (H : Hp) (xs : List V) (us : List Value) (Q : VK), Inv X pins σ H s → Vals xs us → r xs H Q →
    wpAny (model X.prog X.w) X.A (call f us) (EP X pins σ Q) X.xe s
noncomputable def tOp (r : R2) (ta tb : TE) : TE := fun σ H Q => ta σ H fun x H1 => tb σ H1 fun y H2 => r x y H2 Q
noncomputable def tUn (r : V → Hp → VK → Prop) (ta : TE) : TE := fun σ H Q => ta σ H fun x H1 => r x H1 Q
/-- ints in, under C, and a value out -/
noncomputable def rI (C : Int → Int → Prop) (g : Int → Int → V) : R2 := fun x y H Q => ∃ i j, x = .int i ∧ y = .int j ∧ C i j ∧ Q (g i j) H
noncomputable def rI0 (g : Int → Int → V) : R2 := fun x y H Q => ∃ i j, x = .int i ∧ y = .int j ∧ Q (g i j) H
noncomputable def rU (g : Int → V) : V → Hp → VK → Prop := fun x H Q => ∃ i, x = .int i ∧ Q (g i) H

section
variable {X : Cx} {a b c : Expr} {ta tb tc : TE} {pos : Pos}

theorem binT (ha : PE X a ta) (hb : PE X b tb) {pins : List (Addr × Obj)} {s : Shared} {σ : St} {H : Hp} {R : V → V → Hp → Prop} (I : Inv X pins σ H s)
    (h : ta σ H fun x H1 => tb σ H1 fun y H2 => R x y H2) {Q : Value → Shared → Prop} {f : Value → Value → Sem Value}
    (hf : ∀ v u s2 x y H2, Inv X pins σ H2 s2 → RelV x v → RelV y u → R x y H2 → wpAny (model X.prog X.w) X.A (f v u) Q X.xe s2) :
    wpAny (model X.prog X.w) X.A (eval a X.env) (fun v s₁ => wpAny (model X.prog X.w) X.A (eval b X.env) (fun u s₂ => wpAny (model X.prog X.w) X.A (f v u) Q X.xe s₂) X.xe s₁) X.xe s := by
  refine thn (ha pins s σ H _ I h) fun v s1 ⟨x, H1, I1, r1, q1⟩ => ?_
  refine thn (hb pins s1 σ H1 _ I1 q1) fun u s2 ⟨y, H2, I2, r2, q2⟩ => ?_
  exact hf v u s2 x y H2 I2 r1 r2 q2

theorem pe_op {op : Operator} {r : R2} (ho : OpR X (binaryOp op) r) (ha : PE X a ta) (hb : PE X b tb) : PE X (.BinOp a op b pos) (tOp r ta tb) := by
  intro pins s σ H Q I h
  exact wpAny_BinOp (binT ha hb I h fun v u s2 x y H2 I2 rx ry q => ho pins s2 σ H2 x y v u Q I2 rx ry q)
theorem pe_un {op : UnaryOp} {r : V → Hp → VK → Prop} (ho : UnR X (unaryOp op) r) (ha : PE X a ta) : PE X (.UnaryOp op a pos) (tUn r ta) := by
  intro pins s σ H Q I h
  exact UnaryOp_ (thn (ha pins s σ H _ I h) fun v s1 ⟨x, H1, I1, r1, q1⟩ => ho pins s1 σ H1 x v Q I1 r1 q1)
/-! ### ints -/
theorem opI {f : Value → Value → Sem Value} {C : Int → Int → Prop} {g : Int → Int → Int}
    (rule : ∀ (i j : Int) (t u : Tok) (s : Shared) (Q : Value → Shared → Prop) (E : Value → Shared → Prop), C i j → Q (.int (g i j) s.toks) { s with toks := s.toks + 1 } → wpAny (model X.prog X.w) X.A (f (.int i t) (.int j u)) Q E s) :
    OpR X f (rI C fun i j => .int (g i j)) := by
  intro pins s σ H x y v u Q I rx ry h
  obtain ⟨i, j, rfl, rfl, hc, q⟩ := h
  obtain ⟨t, rfl⟩ := rx
  obtain ⟨t', rfl⟩ := ry
  exact rule i j t t' s _ _ hc ⟨.int (g i j), H, I.tok _, ⟨_, rfl⟩, q⟩
theorem opI0 {f : Value → Value → Sem Value} {g : Int → Int → Int}
    (rule : ∀ (i j : Int) (t u : Tok) (s : Shared) (Q : Value → Shared → Prop) (E : Value → Shared → Prop), Q (.int (g i j) s.toks) { s with toks := s.toks + 1 } → wpAny (model X.prog X.w) X.A (f (.int i t) (.int j u)) Q E s) :
    OpR X f (rI0 fun i j => .int (g i j)) := by
  intro pins s σ H x y v u Q I rx ry h
  obtain ⟨i, j, rfl, rfl, q⟩ := h
  obtain ⟨t, rfl⟩ := rx
  obtain ⟨t', rfl⟩ := ry
  exact rule i j t t' s _ _ ⟨.int (g i j), H, I.tok _, ⟨_, rfl⟩, q⟩
theorem opB0 {f : Value → Value → Sem Value} {g : Int → Int → Bool}
    (rule : ∀ (i j : Int) (t u : Tok) (s : Shared) (Q : Value → Shared → Prop) (E : Value → Shared → Prop), Q (.bool (g i j)) s → wpAny (model X.prog X.w) X.A (f (.int i t) (.int j u)) Q E s) :
    OpR X f (rI0 fun i j => .bl (g i j)) := by
  intro pins s σ H x y v u Q I rx ry h
  obtain ⟨i, j, rfl, rfl, q⟩ := h
  obtain ⟨t, rfl⟩ := rx
  obtain ⟨t', rfl⟩ := ry
  exact rule i j t t' s _ _ ⟨.bl (g i j), H, I, rfl, q⟩

noncomputable def CDiv (i j : Int) : Prop := 0 < j ∧ j < 1073741824
noncomputable def CPow (i j : Int) : Prop := 0 ≤ j ∧ j ≤ 1000000 ∧ i.natAbs < 2 ^ 64
noncomputable def CMul (i j : Int) : Prop := (-(2 ^ 64) < i ∧ i < 2 ^ 64) ∨ (-(2 ^ 64) < j ∧ j < 2 ^ 64)
theorem CMul.ok {i j : Int} (h : CMul i j) : IntMulOk i j := by
  rcases h with ⟨h1, h2⟩ | ⟨h1, h2⟩
  · exact .of_left (intBits_le_64 h1 h2)
  · exact .of_right (intBits_le_64 h1 h2)
theorem op_add : OpR X (binaryOp .Add) (rI0 fun i j => .int (i + j)) := opI0 fun _ _ _ _ _ _ _ q => add_int q
theorem op_sub : OpR X (binaryOp .Sub) (rI0 fun i j => .int (i - j)) := opI0 fun _ _ _ _ _ _ _ q => sub_int q
theorem op_mul : OpR X (binaryOp .Mult) (rI CMul fun i j => .int (i * j)) := opI fun _ _ _ _ _ _ _ hc q => mul_int q hc.ok
/-- // by a positive divisor -/
theorem op_fdiv : OpR X (binaryOp .FloorDiv) (rI CDiv fun i j => .int (i / j)) := opI fun i j _ _ _ _ _ hc q => by
  have h1 : (0 : Int) < j := hc.1
  have h2 : j < 1073741824 := hc.2
  exact floordiv_int (by omega) (by rw [Int.fdiv_eq_ediv_of_nonneg i (by omega)]; exact q) (.inl (PyProof.noPylong_small (by omega)))
/-- % by a positive divisor of any size -/
theorem op_mod : OpR X (binaryOp .Mod) (rI (fun _ j => 0 < j) fun i j => .int (i % j)) := opI fun i j _ _ _ _ _ hc q => by
  have h1 : (0 : Int) < j := hc
  exact mod_int' (by omega) (by rw [Int.fmod_eq_emod_of_nonneg i (by omega)]; exact q)
theorem op_modN : OpR X (binaryOp .Mod) (rI (fun _ j => j ≠ 0) fun i j => .int (i.fmod j)) := opI fun _ _ _ _ _ _ _ hc q => mod_int' hc q
theorem op_pow : OpR X (binaryOp .Pow) (rI CPow fun i j => .int (i ^ j.toNat)) := opI fun _ _ _ _ _ _ _ hc q => pow_int_small hc.1 hc.2.1 hc.2.2 q
theorem unI {f : Value → Sem Value} {g : Int → Int}
    (rule : ∀ (i : Int) (t : Tok) (s : Shared) (Q : Value → Shared → Prop) (E : Value → Shared → Prop), Q (.int (g i) s.toks) { s with toks := s.toks + 1 } → wpAny (model X.prog X.w) X.A (f (.int i t)) Q E s) :
    UnR X f (rU fun i => .int (g i)) := by
  intro pins s σ H x v Q I rx h
  obtain ⟨i, rfl, q⟩ := h
  obtain ⟨t, rfl⟩ := rx
  exact rule i t s _ _ ⟨.int (g i), H, I.tok _, ⟨_, rfl⟩, q⟩
theorem un_neg : UnR X (unaryOp .USub) (rU fun i => .int (-i)) := unI fun _ _ _ _ _ q => neg_int q
/-! ### bools among ints: n += (a < b) -/
end

/-! ### comparisons -/
/-- the scalars that == tells apart as data does -/
noncomputable def scal : V → V → Bool
  | .non, .non => true | .non, .int _ => true | .int _, .non => true | .non, .bl _ => true | .bl _, .non => true | .non, .str _ => true | .str _, .non => true
  | .int _, .int _ => true | .bl _, .bl _ => true | .str _, .str _ => true | .byt _, .byt _ => true
  | .int _, .str _ => true | .str _, .int _ => true | .bl _, .str _ => true | .str _, .bl _ => true
  | _, _ => false
noncomputable def rEq : R2 := fun x y H Q => scal x y = true ∧ Q (.bl (decide (x = y))) H
noncomputable def rNe : R2 := fun x y H Q => scal x y = true ∧ Q (.bl (!decide (x = y))) H

theorem dec_int {i j : Int} : decide (V.int i = V.int j) = (i == j) := by
  rw [Bool.eq_iff_iff]
  simp
theorem dec_bl {i j : Bool} : decide (V.bl i = V.bl j) = (i == j) := by
  rw [Bool.eq_iff_iff]
  simp
theorem dec_str {i j : Str} : decide (V.str i = V.str j) = (i == j) := by
  rw [Bool.eq_iff_iff]
  simp
theorem dec_byt {i j : Array UInt8} : decide (V.byt i = V.byt j) = (i.toList == j.toList) := by
  rw [Bool.eq_iff_iff]
  cases i
  cases j
  simp

section
variable {X : Cx} {a b c : Expr} {ta tb tc : TE} {pos : Pos}
theorem fin_bl {pins : List (Addr × Obj)} {σ : St} {H : Hp} {s : Shared} {Q : VK} {k k' : Bool} (I : Inv X pins σ H s) (q : Q (.bl k) H) (e : k = k') : EP X pins σ Q (.bool k') s := by
  subst e
  exact ⟨.bl k, H, I, rfl, q⟩
theorem op_eq : OpR X (compareOp .Eq) rEq := by
  intro pins s σ H x y v u Q I rx ry h
  obtain ⟨hs, q⟩ := h
  cases x with
  | non =>
    cases rx
    cases y with
    | non => cases ry; exact PySem.EqNone.eq_none_none (fin_bl I q (by simp))
    | bl j => cases ry; exact PySem.EqNone.eq_none_bool (fin_bl I q (by simp))
    | int j => obtain ⟨t', rfl⟩ := ry; exact PySem.EqNone.eq_none_int (fin_bl I q (by simp))
    | str j => obtain ⟨t', rfl⟩ := ry; exact PySem.EqNone.eq_none_str (fin_bl I q (by simp))
    | _ => exact absurd (show false = true from hs) Bool.false_ne_true
  | bl i =>
    cases rx
    cases y with
    | non => cases ry; exact PySem.EqNone.eq_bool_none (fin_bl I q (by simp))
    | bl j => cases ry; exact eq_bool (fin_bl I q dec_bl)
    | str j => obtain ⟨t', rfl⟩ := ry; exact PySem.EqMixed.eq_bool_str (fin_bl I q (by simp))
    | _ => exact absurd (show false = true from hs) Bool.false_ne_true
  | int i =>
    obtain ⟨t, rfl⟩ := rx
    cases y with
    | non => cases ry; exact PySem.EqNone.eq_int_none (fin_bl I q (by simp))
    | int j => obtain ⟨t', rfl⟩ := ry; exact eq_int (fin_bl I q dec_int)
    | str j => obtain ⟨t', rfl⟩ := ry; exact PySem.EqMixed.eq_int_str (fin_bl I q (by simp))
    | _ => exact absurd (show false = true from hs) Bool.false_ne_true
  | str i =>
    obtain ⟨t, rfl⟩ := rx
    cases y with
    | non => cases ry; exact PySem.EqNone.eq_str_none (fin_bl I q (by simp))
    | bl j => cases ry; exact PySem.EqMixed.eq_str_bool (fin_bl I q (by simp))
    | int j => obtain ⟨t', rfl⟩ := ry; exact PySem.EqMixed.eq_str_int (fin_bl I q (by simp))
    | str j => obtain ⟨t', rfl⟩ := ry; exact eq_str (fin_bl I q dec_str)
    | _ => exact absurd (show false = true from hs) Bool.false_ne_true
  | byt i =>
    obtain ⟨t, rfl⟩ := rx
    cases y with
    | byt j => obtain ⟨t', rfl⟩ := ry; exact PySem.W.eq_bytes (fin_bl I q dec_byt)
    | _ => exact absurd (show false = true from hs) Bool.false_ne_true
  | _ => cases y <;> exact absurd (show false = true from hs) Bool.false_ne_true
theorem op_ne : OpR X (compareOp .NotEq) rNe := by
  intro pins s σ H x y v u Q I rx ry h
  obtain ⟨hs, q⟩ := h
  cases x with
  | non =>
    cases rx
    cases y with
    | non => cases ry; exact PySem.EqNone.ne_none_none (fin_bl I q (by simp))
    | bl j => cases ry; exact PySem.EqNone.ne_none_bool (fin_bl I q (by simp))
    | int j => obtain ⟨t', rfl⟩ := ry; exact PySem.EqNone.ne_none_int (fin_bl I q (by simp))
    | str j => obtain ⟨t', rfl⟩ := ry; exact PySem.EqNone.ne_none_str (fin_bl I q (by simp))
    | _ => exact absurd (show false = true from hs) Bool.false_ne_true
  | bl i =>
    cases rx
    cases y with
    | non => cases ry; exact PySem.EqNone.ne_bool_none (fin_bl I q (by simp))
    | bl j => cases ry; exact ne_bool (fin_bl I q (congrArg not dec_bl))
    | str j => obtain ⟨t', rfl⟩ := ry; exact PySem.EqMixed.ne_bool_str (fin_bl I q (by simp))
    | _ => exact absurd (show false = true from hs) Bool.false_ne_true
  | int i =>
    obtain ⟨t, rfl⟩ := rx
    cases y with
    | non => cases ry; exact PySem.EqNone.ne_int_none (fin_bl I q (by simp))
    | int j => obtain ⟨t', rfl⟩ := ry; exact ne_int (fin_bl I q (congrArg not dec_int))
    | str j => obtain ⟨t', rfl⟩ := ry; exact PySem.EqMixed.ne_int_str (fin_bl I q (by simp))
    | _ => exact absurd (show false = true from hs) Bool.false_ne_true
  | str i =>
    obtain ⟨t, rfl⟩ := rx
    cases y with
    | non => cases ry; exact PySem.EqNone.ne_str_none (fin_bl I q (by simp))
    | bl j => cases ry; exact PySem.EqMixed.ne_str_bool (fin_bl I q (by simp))
    | int j => obtain ⟨t', rfl⟩ := ry; exact PySem.EqMixed.ne_str_int (fin_bl I q (by simp))
    | str j => obtain ⟨t', rfl⟩ := ry; exact ne_str (fin_bl I q (congrArg not dec_str))
    | _ => exact absurd (show false = true from hs) Bool.false_ne_true
  | byt i =>
    obtain ⟨t, rfl⟩ := rx
    cases y with
    | byt j => obtain ⟨t', rfl⟩ := ry; exact PySem.W.ne_bytes (fin_bl I q (congrArg not dec_byt))
    | _ => exact absurd (show false = true from hs) Bool.false_ne_true
  | _ => cases y <;> exact absurd (show false = true from hs) Bool.false_ne_true

theorem op_lt : OpR X (compareOp .Lt) (rI0 fun i j => .bl (decide (i < j))) := opB0 fun _ _ _ _ _ _ _ q => lt_int q
theorem op_le : OpR X (compareOp .LtE) (rI0 fun i j => .bl (decide (i ≤ j))) := opB0 fun _ _ _ _ _ _ _ q => le_int q
theorem op_gt : OpR X (compareOp .Gt) (rI0 fun i j => .bl (decide (j < i))) := opB0 fun _ _ _ _ _ _ _ q => gt_int q
/-- the one string within the other -/
theorem op_in_str : OpR X (compareOp .In) (fun x y H Q => ∃ i j, x = .str i ∧ y = .str j ∧ Q (.bl (!(Builtin.Str.occurrences j i 0 j.length 1).isEmpty)) H) := by
  intro pins s σ H x y v u Q I rx ry h
  obtain ⟨i, j, rfl, rfl, q⟩ := h
  obtain ⟨t, rfl⟩ := rx
  obtain ⟨t', rfl⟩ := ry
  exact in_str (fin_bl I q rfl)

theorem nomark (b : Expr) {op : CmpOp} (h : op ≠ .In := by decide) (h2 : op ≠ .NotIn := by decide) : behindInMarks op b = false := by
  have e1 : (op == CmpOp.In) = false := by cases op <;> first | rfl | exact absurd rfl h
  have e2 : (op == CmpOp.NotIn) = false := by cases op <;> first | rfl | exact absurd rfl h2
  cases b <;> simp [behindInMarks, e1, e2]
/-- a comparison as a value; hm: nomark b, or (for in, not in) by with_unfolding_all rfl -/
theorem pe_cmpR {op : CmpOp} {r : R2} (ho : OpR X (compareOp op) r) (ha : PE X a ta) (hb : PE X b tb) (hm : behindInMarks op b = false) : PE X (.Compare a [op] [b] pos) (tOp r ta tb) := by
  intro pins s σ H Q I h
  exact wpAny_Compare1 (binT ha hb I h fun v u s2 x y H2 I2 rx ry q => ho pins s2 σ H2 x y v u Q I2 rx ry q) hm
/-- a reading of a value as a test -/
noncomputable def tTest (t : TE) : TT := fun σ H Q => t σ H fun x H' => ∃ k, x = .bl k ∧ Q k H'
theorem pt_cmpR {op : CmpOp} {r : R2} (ho : OpR X (compareOp op) r) (ha : PE X a ta) (hb : PE X b tb) (hm : behindInMarks op b = false) : PT X (.Compare a [op] [b] pos) (tTest (tOp r ta tb)) := by
  intro pins s σ H Q I h
  refine wpAny_isTrue_Compare1 (thn (ha pins s σ H _ I h) fun v s1 ⟨x, H1, I1, r1, q1⟩ => thn (hb pins s1 σ H1 _ I1 q1) fun u s2 ⟨y, H2, I2, r2, q2⟩ =>
    thn (ho pins s2 σ H2 x y v u _ I2 r1 r2 q2) fun c s3 ⟨z, H3, I3, r3, k, e, q3⟩ => ?_) hm
  subst e
  cases r3
  exact wpAny_truthy_bool ⟨H3, I3, q3⟩
/-- a op1 b op2 c -/
noncomputable def tChain (r r' : R2) (ta tb tc : TE) : TE := fun σ H Q => ta σ H fun x H1 => tb σ H1 fun y H2 => r x y H2 fun z H3 => ∃ k, z = .bl k ∧
  (if k = true then tc σ H3 fun w' H4 => r' y w' H4 Q else Q (.bl false) H3)
theorem pe_chain {op op' : CmpOp} {r r' : R2} (ho : OpR X (compareOp op) r) (ho' : OpR X (compareOp op') r') (ha : PE X a ta) (hb : PE X b tb) (hc : PE X c tc)
    (hm : lastMarks [op, op'] [b, c] = false := by with_unfolding_all rfl) : PE X (.Compare a [op, op'] [b, c] pos) (tChain r r' ta tb tc) := by
  intro pins s σ H Q I h
  refine Compare_chain (thn (ha pins s σ H _ I h) fun v s1 ⟨x, H1, I1, r1, q1⟩ => chain_link (thn (hb pins s1 σ H1 _ I1 q1) fun u s2 ⟨y, H2, I2, r2, q2⟩ =>
    thn (ho pins s2 σ H2 x y v u _ I2 r1 r2 q2) fun d s3 ⟨z, H3, I3, r3, k, e, q3⟩ => ?_)) hm
  subst e
  cases r3
  refine wpAny_truthy_bool ?_
  cases k with
  | false => exact ite_ff ⟨.bl false, H3, I3, rfl, q3⟩
  | true => exact ite_tt (chain_last (thn (hc pins s3 σ H3 _ I3 q3) fun w' s4 ⟨z', H4, I4, r4, q4⟩ => ho' pins s4 σ H4 y z' u w' Q I4 r2 r4 q4))
/-! ### truth -/
theorem line63 : (sizeLine : Nat) < 2 ^ 63 := by rw [sizeLine_eq]; decide
/-! ### strs and bytes -/
theorem op_add_str : OpR X (binaryOp .Add) (fun x y H Q => ∃ i j, x = .str i ∧ y = .str j ∧ i.length + j.length ≤ sizeLine ∧ Q (.str (i ++ j)) H) := by
  intro pins s σ H x y v u Q I rx ry h
  obtain ⟨i, j, rfl, rfl, hz, q⟩ := h
  obtain ⟨t, rfl⟩ := rx
  obtain ⟨t', rfl⟩ := ry
  exact add_str (fun t' tk => ⟨.str (i ++ j), H, I.tok _, ⟨_, rfl⟩, q⟩) hz
/-! ### scalar builtins, by CallR -/
theorem vals1 {x : V} {us : List Value} (r : Vals [x] us) : ∃ u, us = [u] ∧ RelV x u := by
  cases r with
  | cons r1 r2 => cases r2; exact ⟨_, rfl, r1⟩
theorem vals2 {x y : V} {us : List Value} (r : Vals [x, y] us) : ∃ u w', us = [u, w'] ∧ RelV x u ∧ RelV y w' := by
  cases r with
  | cons r1 r2 =>
    cases r2 with
    | cons r3 r4 => cases r4; exact ⟨_, _, rfl, r1, r3⟩
theorem call_abs : CallR X (.builtin "abs") (fun xs H Q => ∃ i, xs = [.int i] ∧ Q (.int (if i < 0 then -i else i)) H) := by
  intro pins s σ H xs us Q I r h
  obtain ⟨i, rfl, q⟩ := h
  obtain ⟨u, rfl, t, rfl⟩ := vals1 r
  exact call_abs_int fun u tk => ⟨.int (if i < 0 then -i else i), H, I.tok _, ⟨_, rfl⟩, q⟩
end
end L2

namespace L2
open PySem PySem.Spec PyProof.Rows

/-! ### an instance, its attributes a map -/
structure ObjM (h : Heap) (x dx C : Addr) (mA : Str → Option Value) : Prop where
  obj : h.get? x = some (PySem.W.instObj C dx)
  ns : h.Ns1 dx mA
  ne : dx ≠ x

theorem lookIn_ns {h : Heap} {dx : Addr} {mA : Str → Option Value} (n : h.Ns1 dx mA) : ∃ od, h.get? dx = some od ∧ ∀ name, PySem.W.lookIn name od = some (mA name) := by
  obtain ⟨o, es, ep, ho, hd, hk, _, hm⟩ := n
  refine ⟨o, ho, fun name => ?_⟩
  have e := hm name
  unfold nsFind findBy at e
  rw [← Array.find?_toList] at e
  unfold PySem.W.lookIn
  rw [hd]
  dsimp only
  split
  · rename_i y q
    rw [q] at e
    exact congrArg some e
  · rename_i q
    rw [q] at e
    have a : es.toList.any (·.refKey) = false := by
      rw [List.any_eq_false]
      intro y hy
      obtain ⟨z, t, hkey⟩ := hk y (Array.mem_toList_iff.mp hy)
      simp [DictEntry.refKey, hkey]
    have a' : ¬ es.toList.any (·.refKey) = true := by rw [a]; exact Bool.false_ne_true
    rw [if_neg a']
    exact congrArg some e

theorem ObjM.look {h : Heap} {x dx C : Addr} {mA : Str → Option Value} (I : ObjM h x dx C mA) : ∃ od, PySem.W.InstAt h x (PySem.W.instObj C dx) C (some od) ∧ ∀ name, PySem.W.lookIn name od = some (mA name) :=
  let ⟨od, ho, hl⟩ := lookIn_ns I.ns
  ⟨od, ⟨I.obj, rfl, rfl, ho⟩, hl⟩

section
variable {prog : Program} {w : World} {A : Around} {E : Value → Shared → Prop} {s : Shared} {K : PySem.W.Frag} {x dx C f : Addr} {mA : Str → Option Value} {name : Str} {v : Value}

end

/-! ### the attributes as a list of pairs -/
theorem RelO.some_of {v : V} {o : Option Value} (r : RelO (some v) o) : ∃ u, o = some u ∧ RelV v u := by
  cases o with
  | none => exact (show False from r).elim
  | some u => exact ⟨u, rfl, r⟩
section
variable {P : Program} {w : World} {H H' : Hp} {h h' : Heap} {a C dx : Addr} {fs fs' : List (Str × V)}
theorem ins_get (hok : HOk P w H h) (e : H a = some (.ins C dx fs)) : ∃ mA, ObjM h a dx C mA ∧ (∀ f, RelO (fs.lookup f) (mA f)) ∧ PySem.Within mA (fs.map (·.1)) ∧ fs.length ≤ 1000 ∧ H dx = some (.own a) := by
  obtain ⟨d, z, ne, ob, mA, n, r, q⟩ := (show ObjOk P w H h a (.ins C dx fs) from hok a _ e)
  exact ⟨mA, ⟨ob, n, ne⟩, r, q, z, d⟩
end

/-! ### what of the text a class must have -/
structure Cls (K : PySem.W.Frag) (C : Addr) : Prop where
  pg : PySem.W.plainGet K C Str.empty = true
  hd : PySem.W.hasDictIn K C = true
  po : PySem.W.plainOver K C = true
  sa : PySem.W.findIn K (.ref C) "__setattr__" = some (some (.builtin "object.__setattr__"))
theorem Cls.get {K : PySem.W.Frag} {C : Addr} (c : Cls K C) (f : Str) : PySem.W.plainGet K C f = true := c.pg
section
variable {X : Cx} {pins : List (Addr × Obj)} {σ : St} {H : Hp} {s : Shared} {a C dx : Addr} {fs : List (Str × V)} {f : Str} {v : V} {A : Around} {E : Value → Shared → Prop}

end

/-! ### readings and rules -/
section
variable {X : Cx} {o e value : Expr} {f : Str} {pos pos' tpos : Pos} {ta tv : TE}
end

/-! ### isinstance -/
section
variable {X : Cx} {pins : List (Addr × Obj)} {σ : St} {H : Hp} {s : Shared} {A : Around} {E : Value → Shared → Prop} {Q : Value → Shared → Prop} {c : Value} {b : Bool}
/-- the type of a value, as the fragment's deciders take it; for an instance its class -/
inductive TyOf (K : PySem.W.Frag) (H : Hp) : V → Value → Prop where
  | non : TyOf K H .non (.type "NoneType")
  | bl (x : Bool) : TyOf K H (.bl x) (.type "bool")
  | int (i : Int) : TyOf K H (.int i) (.type "int")
  | str (x : Str) : TyOf K H (.str x) (.type "str")
  | flt (x : UInt64) : TyOf K H (.flt x) (.type "float")
  | lst {a : Addr} {xs : List V} (e : H a = some (.lst xs)) : TyOf K H (.ref a) (.type "list")
  | frz {a : Addr} {o : Obj} {xs : List V} (e : H a = some (.frz o (.lst xs))) : TyOf K H (.ref a) (.type "list")
  | tup {a : Addr} {xs : List V} (e : H a = some (.tup xs)) : TyOf K H (.ref a) (.type "tuple")
  | dK {a : Addr} {kvs : List (Key × V)} (e : H a = some (.dK kvs)) : TyOf K H (.ref a) (.type "dict")
  | dT {a : Addr} {kvs : List (List Key × V)} (e : H a = some (.dT kvs)) : TyOf K H (.ref a) (.type "dict")
  | ins {a C dx : Addr} {fs : List (Str × V)} (e : H a = some (.ins C dx fs)) (cl : Cls K C) (ha : PySem.W.findIn K (.ref C) "__class__" = some (some (.builtin "object.__class__")))
      (hn : PySem.W.specialIn K (.builtin "object.__class__") "__get__" = some (some (.builtin "getset_descriptor.__get__"))) (htk : PySem.W.takesIn K (.builtin "object.__class__") = some true)
      (hm : PySem.W.mroIn K C (.type "object") = some true) : TyOf K H (.ref a) (.ref C)
/-- isinstance(x, c) for one class c, a built-in or an own one: kitOne's answer -/
theorem isinst_ok {x : V} {u t : Value} (I : Inv X pins σ H s) (rx : RelV x u) (ty : TyOf X.K H x t) (e : PySem.W.kitOne X.K t c = some b) (h : ∀ tk, Q (.bool b) { s with toks := tk }) :
    wpAny (model X.prog X.w) A (call (.builtin "isinstance") [u, c]) Q E s := by
  cases ty with
  | non => cases (show u = Value.none from rx); exact PySem.W.kia_one PySem.W.kitx_none I.kIn True.intro e (fun z => nomatch z) h
  | bl y => cases (show u = Value.bool y from rx); exact PySem.W.kia_one PySem.W.kitx_bool I.kIn True.intro e (fun z => nomatch z) h
  | int i => obtain ⟨t, q⟩ := (show ∃ t, u = Value.int i t from rx); cases q; exact PySem.W.kia_one PySem.W.kitx_int I.kIn True.intro e (fun z => nomatch z) h
  | str y => obtain ⟨t, q⟩ := (show ∃ t, u = Value.str y t from rx); cases q; exact PySem.W.kia_one PySem.W.kitx_str I.kIn True.intro e (fun z => nomatch z) h
  | flt y => obtain ⟨t, q⟩ := (show ∃ t, u = Value.float y t from rx); cases q; exact PySem.W.kia_one PySem.W.kitx_float I.kIn True.intro e (fun z => nomatch z) h
  | @lst a xs ea =>
    cases (show u = Value.ref a from rx)
    obtain ⟨_, _, n, _, h1⟩ := (show ObjOk X.prog X.w H s.heap a (.lst xs) from I.hok a _ ea)
    exact PySem.W.kia_one PySem.W.kitx_list I.kIn ⟨_, h1, rfl⟩ e (fun z => nomatch z) h
  | @frz a ob xs ea =>
    cases (show u = Value.ref a from rx)
    obtain ⟨_, _, _, n, _, h1⟩ := (show ObjOk X.prog X.w H s.heap a (.frz ob (.lst xs)) from I.hok a _ ea)
    exact PySem.W.kia_one PySem.W.kitx_list I.kIn ⟨_, h1, rfl⟩ e (fun z => nomatch z) h
  | @tup a xs ea =>
    cases (show u = Value.ref a from rx)
    obtain ⟨_, _, _, p⟩ := (show ObjOk X.prog X.w H s.heap a (.tup xs) from I.hok a _ ea)
    obtain ⟨o, h1, h2, _⟩ := p
    exact PySem.W.kia_one PySem.W.kitx_tuple I.kIn ⟨o, h1, h2⟩ e (fun z => nomatch z) h
  | @dK a kvs ea =>
    cases (show u = Value.ref a from rx)
    obtain ⟨_, _, vs, _, p⟩ := (show ObjOk X.prog X.w H s.heap a (.dK kvs) from I.hok a _ ea)
    obtain ⟨o, es, ep, h1, h2, _⟩ := p
    exact PySem.W.kia_one PySem.W.kitx_dict I.kIn ⟨o, h1, h2.1⟩ e (fun z => nomatch z) h
  | @dT a kvs ea =>
    cases (show u = Value.ref a from rx)
    obtain ⟨_, _, xs, _, o, es, ep, h1, h2, _⟩ := (show ObjOk X.prog X.w H s.heap a (.dT kvs) from I.hok a _ ea)
    exact PySem.W.kia_one PySem.W.kitx_dict I.kIn ⟨o, h1, h2.1⟩ e (fun z => nomatch z) h
  | @ins a C dx fs ea cl ha hn htk hm =>
    cases (show u = Value.ref a from rx)
    obtain ⟨mA, O, _⟩ := ins_get I.hok ea
    obtain ⟨od, J, _⟩ := O.look
    exact PySem.W.kia_one (PySem.W.kitx_own (cl.get _) cl.hd ha hn htk hm) I.kIn J e (fun z => nomatch z) h
end
end L2

namespace L2
open PySem PySem.Spec PyProof.Rows

/-! ### room -/
structure Room (k : Nat) (A : Around) : Prop where
  hd : A.handled = none
  dp : A.depth + 3 * k + 5 < recursionLimit
  un : A.units + 16 * k + 200 < cLine
theorem Room.mono {j k : Nat} {A : Around} (r : Room k A) (h : j ≤ k) : Room j A := ⟨r.hd, by have := r.dp; omega, by have := r.un; omega⟩
theorem Room.deeper {k : Nat} {A : Around} (r : Room (k + 1) A) (env : Env) : Room k (A.deeper env) :=
  ⟨r.hd, by have := r.dp; show A.depth + 1 + 3 * k + 5 < _; omega, by have := r.un; show A.units + 3 + 16 * k + 200 < _; omega⟩
theorem Room.depth {k : Nat} {A : Around} (r : Room k A) : A.depth < recursionLimit := by have := r.dp; omega
theorem Room.units {k : Nat} {A : Around} (r : Room k A) : A.units + 64 < cLine := by have := r.un; omega
/-! ### argument lists and displays -/
noncomputable def tNil : TA := fun _ H Q => Q [] H
noncomputable def tCons (ta : TE) (tr : TA) : TA := fun σ H Q => ta σ H fun x H1 => tr σ H1 fun xs H2 => Q (x :: xs) H2
section
variable {X : Cx} {e : Expr} {es : List Expr} {te : TE} {t : TA} {pos : Pos}
theorem pa_nil : PA X [] tNil := fun _ _ _ _ H Q I h => Calls.spliced_nil ⟨[], H, I, .nil, h⟩
theorem pa_cons (ha : PE X e te) (hr : PA X es t) (hs : starEach (e :: es) X.env = (false, eval e X.env) :: starEach es X.env := by rfl) : PA X (e :: es) (tCons te t) := by
  intro pos pins s σ H Q I h
  rw [hs]
  show wpAny _ _ (spliced ((false, eval e X.env) :: backTo pos (starEach es X.env))) _ _ s
  refine Calls.spliced_cons (thn (ha pins s σ H _ I h) fun u s1 ⟨x, H1, I1, r1, q1⟩ => ?_)
  exact thn (hr pos pins s1 σ H1 _ I1 q1) fun us s2 ⟨xs, H2, I2, r2, q2⟩ => ⟨x :: xs, H2, I2, .cons r1 r2, q2⟩

/-- a tuple, a list of written items -/
noncomputable def tTup (t : TA) : TE := fun σ H Q => t σ H fun xs H1 => xs.length ≤ sizeLine ∧ ∀ p, H1 p = none → Q (.ref p) (upd H1 p (.tup xs))
noncomputable def tLst (t : TA) : TE := fun σ H Q => t σ H fun xs H1 => xs.length ≤ sizeLine ∧ ∀ p, H1 p = none → Q (.ref p) (upd H1 p (.lst xs))
theorem pe_tup {x1} (h : PA X es t) : PE X (.Tuple es x1 pos) (tTup t) := by
  intro pins s σ H Q I hq
  refine wpAny_Tuple_spliced (thn (h pos pins s σ H _ I hq) fun us s1 ⟨xs, H1, I1, r, z, q⟩ => ⟨by rw [← r.length]; exact z, ?_⟩)
  have hf : H1 s1.heap.objs.size = none := I1.hok.fresh (Nat.le_refl _)
  refine ⟨.ref s1.heap.objs.size, upd H1 s1.heap.objs.size (.tup xs), I1.laid (t' := s1.toks) (fun b u e => Heap.get?_push_of_some _ e) (Nat.le_refl _) ?_, rfl, q _ hf⟩
  exact ⟨z, us, r, ⟨_, Heap.get?_push_size _ rfl, rfl, _, rfl⟩⟩
theorem pe_lst (h : PA X es t) : PE X (.List es pos) (tLst t) := by
  intro pins s σ H Q I hq
  refine wpAny_List_spliced (thn (h pos pins s σ H _ I hq) fun us s1 ⟨xs, H1, I1, r, z, q⟩ => ⟨by rw [← r.length]; exact z, ?_⟩)
  have hf : H1 s1.heap.objs.size = none := I1.hok.fresh (Nat.le_refl _)
  refine ⟨.ref s1.heap.objs.size, upd H1 s1.heap.objs.size (.lst xs), I1.laid (t' := s1.toks) (fun b u e => Heap.get?_push_of_some _ e) (Nat.le_refl _) ?_, rfl, q _ hf⟩
  exact ⟨z, us, 0, r, Heap.get?_push_size _ rfl⟩
end

/-! ### what a def promises -/
/-- a def's promise: the bound arguments in the parameters' order, the heap, the wanted end, the wanted exception -/
noncomputable abbrev Sp := List V → Hp → VK → XK → Prop
/-- how an exception lies behind a call (file 08 gives it): the callers' frames, abstract heap and state ahead of the call, the wish, the exception, the state -/
noncomputable abbrev CXT := List Env → Hp → Shared → XK → Value → Shared → Prop

/-- the state at a call -/
structure Env0 (P : Program) (w : World) (K : PySem.W.Frag) (mg : Str → Option Value) (base : Heap) (A : Around) (outer : List Env) (s : Shared) (H : Hp) : Prop where
  frames : A.frames = some outer
  mod : Mod K mg base
  bs : ∀ b o, base.get? b = some o → s.heap.get? b = some o ∧ H b = none
  bsz : base.objs.size ≤ s.heap.objs.size
  funs : s.heap.FunFrames base outer
  frf : ∀ b ∈ frs outer, H b = none
  hok : HOk P w H s.heap
  bare : AllBare s.gens
/-- a call's end -/
noncomputable def CE (outer : List Env) (P : Program) (w : World) (H : Hp) (s : Shared) (Q : VK) (u : Value) (s' : Shared) : Prop :=
  ∃ v H', s'.os = s.os ∧ AllBare s'.gens ∧ Un (frs outer) [] H H' s.heap s'.heap ∧ HOk P w H' s'.heap ∧ RelV v u ∧ Q v H'
noncomputable def CR (CX : CXT) (outer : List Env) (P : Program) (w : World) (H : Hp) (s : Shared) (Q : VK) (E : XK) (r : Result) (s' : Shared) : Prop :=
  match r with
  | .ok (.ret u) => CE outer P w H s Q u s'
  | .ok _ => False
  | .error e => CX outer H s E e s'
structure FnOk (P : Program) (w : World) (K : PySem.W.Frag) (mg : Str → Option Value) (base : Heap) (CX : CXT) (k : Nat) (f : Addr) (fd : FuncData) (ps : List Str) (sp : Sp) : Prop where
  len : ∀ vs H Q E, sp vs H Q E → vs.length = ps.length
  run : ∀ (A : Around) (outer : List Env) (s : Shared) (H : Hp) (args : Args) (us : List Value) (vs : List V) (Q : VK) (E : XK), Room k A → Env0 P w K mg base A outer s H → BindsTo s fd args (ps.zip us) → Vals vs us → sp vs H Q E →
    codeAny (model P w) A (.call (.ref f) args) (CR CX outer P w H s Q E) s
section
variable {X : Cx} {pins : List (Addr × Obj)} {σ : St} {H : Hp} {s s' : Shared}
/-- from a body: what a callee wants -/
theorem Inv.env0 (I : Inv X pins σ H s) : Env0 X.prog X.w X.K X.mg X.base X.A X.stack s H :=
  ⟨I.ok.frames, I.ok.mod, I.bs, Nat.le_trans I.ok.bsz I.sz, I.stack, I.stkFree, I.hok, I.bare⟩
/-- behind a call -/
theorem Inv.after {Q : VK} {u : Value} (I : Inv X pins σ H s) (h : CE X.stack X.prog X.w H s Q u s') : EP X pins σ Q u s' := by
  obtain ⟨v, H', os, bare, un, hok, r, q⟩ := h
  obtain ⟨hh, g, d, t, os'⟩ := s'
  obtain rfl : os' = s.os := os
  exact ⟨v, H', I.call (h' := hh) (g' := g) (d' := d) (t' := t) (ch := []) un hok bare (fun b z => absurd z (by simp)), r, q⟩
end

/-! ### calls -/
/-- f(..): the written arguments, then the defaults dvs; E: what is wanted of an exception -/
noncomputable def tCall (sp : Sp) (dvs : List V) (E : XK) (t : TA) : TE := fun σ H Q => t σ H fun vs H1 => sp (vs ++ dvs) H1 Q E
/-- how the parameters are bound: us the positional arguments, kw the keywords' values by name, ds the defaults that fill up -/
noncomputable def Binds (K : PySem.W.Frag) (fd : FuncData) (ps : List Str) (ds : List Value) : Prop :=
  ∀ (s : Shared) (us : List Value), K.In s.heap → (us ++ ds).length = ps.length → BindsTo s fd ⟨us, []⟩ (ps.zip (us ++ ds))
/-- every parameter is given -/
theorem Binds.all {K : PySem.W.Frag} {fd : FuncData} {ps : List Str} (h : ∀ us : List Value, us.length = ps.length → bindArgs fd ⟨us, []⟩ = pure (ps.zip us)) : Binds K fd ps [] := fun s us _ hl => by
  rw [List.append_nil] at hl ⊢
  exact .of_eq (h us hl)

/-- an exception of a callee reaches what this body wants of exceptions -/
noncomputable def Passes (CX : CXT) (X : Cx) (E : XK) : Prop := ∀ (pins : List (Addr × Obj)) (σ : St) (H : Hp) (s : Shared) (e : Value) (s' : Shared), Inv X pins σ H s → CX X.stack H s E e s' → X.xe e s'

section
variable {X : Cx} {CX : CXT} {k : Nat} {f C : Addr} {fd : FuncData} {ps : List Str} {sp : Sp} {dvs : List V} {ds : List Value} {E : XK} {x m : Str} {p pos apos : Pos} {e o : Expr} {es : List Expr} {ta : TE} {t : TA}

/-- the callee runs -/
theorem run_fn {pins : List (Addr × Obj)} {σ : St} {H : Hp} {s : Shared} {Q : VK} {us : List Value} {vs : List V} (F : FnOk X.prog X.w X.K X.mg X.base CX k f fd ps sp) (hr : Room k X.A) (hb : Binds X.K fd ps ds) (hd : Vals dvs ds) (hx : Passes CX X E)
    (I : Inv X pins σ H s) (r : Vals vs us) (h : sp (vs ++ dvs) H Q E) : wpAny (model X.prog X.w) X.A (call (.ref f) us) (EP X pins σ Q) X.xe s := by
  have r2 : Vals (vs ++ dvs) (us ++ ds) := r.append hd
  have hl : (us ++ ds).length = ps.length := by rw [← r2.length]; exact F.len _ _ _ _ h
  refine wpAny_call (codeAny_mono (F.run X.A X.stack s H ⟨us, []⟩ (us ++ ds) (vs ++ dvs) Q E hr I.env0 (hb s us I.kIn hl) r2 h) fun r s' hq => ?_)
  cases r with
  | error e => exact hx pins σ H s e s' I hq
  | ok fl =>
    cases fl with
    | ret u => exact I.after hq
    | next => exact False.elim hq
    | brk => exact False.elim hq
    | cont => exact False.elim hq

theorem pe_call (F : FnOk X.prog X.w X.K X.mg X.base CX k f fd ps sp) (hr : Room k X.A) (hg : Gl X x) (hm : X.mg x = some (.ref f)) (hk : PySem.W.keepIn X.K (.ref f) = true) (hb : Binds X.K fd ps ds) (hd : Vals dvs ds) (hx : Passes CX X E)
    (ha : PA X (e :: es) t) (hdb : (x == ("__debug__" : Str)) = false := by decide) (he : starEach (e :: es) X.env = (false, eval e X.env) :: starEach es X.env := by rfl) (hpl : (backTo pos (starEach es X.env)).any (·.1) = false := by rfl) :
    PE X (.Call (.Name x p) (e :: es) [] pos) (tCall sp dvs E t) := by
  intro pins s σ H Q I h
  refine wpAny_Call_Name_kw (ld_glob I hg hm ?_ hdb)
  refine PySem.W.callWith_K (h₀ := X.base) I.ok.mod.kin hk (thn (ha pos pins s σ H _ I h) fun us s1 ⟨vs, H1, I1, r, q⟩ => ⟨I1.kIn, ?_⟩) he hpl
  exact run_fn F hr hb hd hx I1 r q
end

/-! ### keywords -/
section
variable {X : Cx} {CX : CXT} {k : Nat} {f C : Addr} {fd : FuncData} {ps ks : List Str} {sp : Sp} {E : XK} {x m : Str} {p pos apos kpos : Pos} {e o : Expr} {es : List Expr} {kws : List Keyword} {te ta : TE} {t tk : TA} {nm : Option Str}
variable {g : List Value → List Value → List Value} {gV : List V → List V → List V}
end

/-! ### a def's body keeps its promise -/
/-- names: the parameters first -/
structure FnScope (N P : List Str) (sc : Scope) : Prop where
  kind : sc.kind = .function
  co : sc.isCoroutine = false
  gen : sc.isGenerator = false
  nd : N.Nodup
  pre : N.take P.length = P
  par : ∀ x ∈ P, sc.names.lookup x = some .local ∨ sc.names.lookup x = some .cell
  nofree : ∀ y ∈ sc.names, y.2 ≠ .free

theorem bindL_out {kindOf : Str → Option NameKind} {x : Str} : ∀ {binds : List (Str × Value)} {m : Str → Option Value}, (∀ v, (x, v) ∉ binds) → bindL kindOf binds m x = m x
  | [], _, _ => rfl
  | (n, v) :: r, m, h => by
    unfold bindL
    rw [bindL_out fun w hw => h w (List.mem_cons_of_mem _ hw)]
    split
    · have : x ≠ n := by rintro rfl; exact h v List.mem_cons_self
      simp [this]
    · rfl
theorem bindC_out {kindOf : Str → Option NameKind} {x : Str} : ∀ {binds : List (Str × Value)} {m : Str → Option Value}, (∀ v, (x, v) ∉ binds) → bindC kindOf binds m x = m x
  | [], _, _ => rfl
  | (n, v) :: r, m, h => by
    unfold bindC
    rw [bindC_out fun w hw => h w (List.mem_cons_of_mem _ hw)]
    split
    · rfl
    · have : x ≠ n := by rintro rfl; exact h v List.mem_cons_self
      simp [this]
theorem bindL_get {kindOf : Str → Option NameKind} {x : Str} {v : Value} : ∀ {P : List Str} {vs : List Value} {i : Nat} {m : Str → Option Value}, P.Nodup → P[i]? = some x → vs[i]? = some v → kindOf x = some .local →
    bindL kindOf (P.zip vs) m x = some v
  | [], _, _, _, _, h, _, _ => by simp at h
  | _ :: _, [], _, _, _, _, h, _ => by simp at h
  | p :: P, w :: vs, 0, m, nd, h1, h2, hk => by
    simp at h1 h2; subst h1; subst h2
    show bindL kindOf ((p, w) :: P.zip vs) m p = _
    unfold bindL
    rw [bindL_out fun v hv => (List.nodup_cons.mp nd).1 (List.of_mem_zip hv).1, if_pos hk]
    simp
  | p :: P, w :: vs, i + 1, m, nd, h1, h2, hk => by
    show bindL kindOf ((p, w) :: P.zip vs) m x = _
    unfold bindL
    exact bindL_get (i := i) (List.nodup_cons.mp nd).2 (by simpa using h1) (by simpa using h2) hk
theorem bindC_get {kindOf : Str → Option NameKind} {x : Str} {v : Value} : ∀ {P : List Str} {vs : List Value} {i : Nat} {m : Str → Option Value}, P.Nodup → P[i]? = some x → vs[i]? = some v → kindOf x ≠ some .local →
    bindC kindOf (P.zip vs) m x = some v
  | [], _, _, _, _, h, _, _ => by simp at h
  | _ :: _, [], _, _, _, _, h, _ => by simp at h
  | p :: P, w :: vs, 0, m, nd, h1, h2, hk => by
    simp at h1 h2; subst h1; subst h2
    show bindC kindOf ((p, w) :: P.zip vs) m p = _
    unfold bindC
    rw [bindC_out fun v hv => (List.nodup_cons.mp nd).1 (List.of_mem_zip hv).1, if_neg hk]
    simp
  | p :: P, w :: vs, i + 1, m, nd, h1, h2, hk => by
    show bindC kindOf ((p, w) :: P.zip vs) m x = _
    unfold bindC
    exact bindC_get (i := i) (List.nodup_cons.mp nd).2 (by simpa using h1) (by simpa using h2) hk

/-- the names' values at the entry -/
noncomputable def start (N : List Str) (vs : List V) : St := vs.map some ++ List.replicate (N.length - vs.length) none

/-- the context of a def's body, at its entry; an exception leaves the frame, then lies as CX says -/
noncomputable def cxOf (CX : CXT) (P : Program) (w : World) (K : PySem.W.Frag) (mg : Str → Option Value) (base : Heap) (N : List Str) (qual : Str) (scope : Scope) (f : Addr) (cd : Value) (A : Around) (outer : List Env) (s : Shared) (H : Hp) (E : XK) : Cx where
  prog := P
  w := w
  K := K
  mg := mg
  base := base
  A := A.deeper (envOfC qual scope s.heap.objs.size f cd)
  N := N
  s₀ := s
  H₀ := H
  env := envOfC qual scope s.heap.objs.size f cd
  outer := outer
  stack := envOfC qual scope s.heap.objs.size f cd :: outer
  ex := []
  calm := true
  fn := fun _ => true
  pn := []
  xe := fun e s' => wpAny (model P w) (A.deeper (envOfC qual scope s.heap.objs.size f cd)) (leaving (envOfC qual scope s.heap.objs.size f cd) e) (fun _ s'' => CX outer H s E e s'') (fun e' s'' => CX outer H s E e' s'') s'

theorem cell_has {sc : Scope} {n : Nat} {x : Str} (h : sc.names.lookup x = some .cell) : ∃ c, (cellsFrom n sc.names []).lookup x = some c := by
  have q := PySem.W.cellsFrom_some sc.names n [] (.inl h)
  exact Option.isSome_iff_exists.mp q

theorem inv_start {CX : CXT} {P : Program} {w : World} {K : PySem.W.Frag} {mg : Str → Option Value} {base : Heap} {N ps : List Str} {qual : Str} {scope : Scope} {f : Addr} {cd : Value} {A : Around} {outer : List Env} {s s1 : Shared} {H : Hp} {E : XK} {us : List Value} {vs : List V}
    (S : FnScope N ps scope) (hd : A.handled = none) (e0 : Env0 P w K mg base A outer s H) (hl : vs.length = ps.length) (r : Vals vs us)
    (x : InCallC s s.heap.objs.size (bindL (envOfC qual scope s.heap.objs.size f cd).kindOf (ps.zip us) fun _ => none) (cellsFrom (s.heap.objs.size + 1) scope.names []) (bindC (envOfC qual scope s.heap.objs.size f cd).kindOf (ps.zip us) fun _ => none) s1) :
    Inv (cxOf CX P w K mg base N qual scope f cd A outer s H E) [] (start N vs) H s1 := by
  have hpl : ps.length ≤ N.length := by have := congrArg List.length S.pre; rw [List.length_take] at this; omega
  obtain ⟨h1, tk, rfl, hk⟩ := x.done
  have noA : ∀ b : Addr, b ∉ (cxOf CX P w K mg base N qual scope f cd A outer s H E).ex := fun b z => absurd (show b ∈ ([] : List Addr) from z) (by simp)
  refine ⟨⟨e0.mod, S.kind, rfl, rfl, Nat.le_refl _, fun y z c h1 h2 => ?_, fun y hy => ?_, fun y c _ h => ?_, fun _ => hd, Around.frames_deeper e0.frames, .inr ⟨rfl, rfl⟩, fun b z => absurd z (noA b), e0.bs, e0.bsz, fun b _ _ => noA b, fun b z => absurd z (noA b), e0.funs, e0.frf⟩,
    rfl, e0.bare, Un.kept hk, ⟨_, x.toInCall.ns, fun i y v h1 h2 h3 => ?_⟩, fun y c h => ⟨_, x.cell y c h⟩, e0.hok.fresh (Nat.le_refl _), fun y c h => ?_, fun p hp => absurd (show p ∈ ([] : List (Addr × Obj)) from hp) (by simp), e0.hok.kept hk, ?_⟩
  · exact name_of_addr x.apart (PySem.mem_of_lookup h1) (PySem.mem_of_lookup h2)
  · have hy : scope.names.lookup y = some .cell ∨ scope.names.lookup y = some .free := hy
    rcases hy with hy | hy
    · exact cell_has hy
    · exact absurd rfl (S.nofree _ (PySem.mem_of_lookup hy))
  · exact Nat.le_of_lt (x.above y c (PySem.mem_of_lookup h))
  · have hi : i < vs.length := by
      unfold start at h2
      by_cases hi : i < vs.length
      · exact hi
      · rw [List.getElem?_append_right (by simpa using hi)] at h2
        rw [List.getElem?_replicate] at h2
        split at h2 <;> cases h2
    have ha : vs[i]? = some v := by
      unfold start at h2
      rw [List.getElem?_append_left (by simpa using hi), List.getElem?_map] at h2
      cases e : vs[i]? with
      | none => rw [e] at h2; cases h2
      | some a => rw [e] at h2; cases h2; rfl
    obtain ⟨u, hu, rv⟩ := r.get ha
    have hp : ps[i]? = some y := by
      rw [← S.pre, List.getElem?_take_of_lt (by omega)]; exact h1
    have ndP : ps.Nodup := by rw [← S.pre]; exact S.nd.sublist (List.take_sublist _ _)
    refine ⟨u, rv, ?_⟩
    rcases S.par y (List.mem_of_getElem? hp) with k | k
    · exact .inl ⟨k, bindL_get ndP hp hu k⟩
    · obtain ⟨c, e⟩ := cell_has (n := s.heap.objs.size + 1) k
      refine .inr ⟨.inl k, c, e, ?_⟩
      have q := x.cell y c e
      rw [bindC_get ndP hp hu (by show scope.names.lookup y ≠ _; rw [k]; decide)] at q
      exact q
  · exact e0.hok.fresh (Nat.le_of_lt (x.above y c (PySem.mem_of_lookup h)))
  · unfold start
    show _ = N.length
    rw [List.length_append, List.length_map, List.length_replicate]
    omega

/-- THE RULE: a def (or a method) of the text, by its body. The body's reading t is chosen for each entry; it is run at the parameters' values -/
theorem fn_of {CX : CXT} {P : Program} {w : World} {K : PySem.W.Frag} {mg : Str → Option Value} {base : Heap} {k : Nat} {f : Addr} {name qual : Str} {params : Arguments} {body : List Stmt} {scope : Scope} {dV kV doc pm cdv ct oc : Value} {an od : Option Addr}
    {osl : Array (Option Value)} {N ps : List Str} {sp : Sp} (lk : K.lookup f = some ⟨oc, od, .func (PySem.W.fnOf name qual params body scope dV kV doc pm an cdv ct), osl⟩) (hcd : PySem.W.codeIn K cdv qual = true) (S : FnScope N ps scope)
    (len : ∀ vs H Q E, sp vs H Q E → vs.length = ps.length)
    (hbody : ∀ (A : Around) (outer : List Env) (s : Shared) (H : Hp) (vs : List V) (Q : VK) (E : XK), Room k (A.deeper (envOfC qual scope s.heap.objs.size f cdv)) → sp vs H Q E →
      ∃ t, PSs (cxOf CX P w K mg base N qual scope f cdv A outer s H E) body t ∧ t { nx := fun _ H' => Q .non H', rt := Q } (start N vs) H) :
    FnOk P w K mg base CX (k + 1) f (PySem.W.fnOf name qual params body scope dV kV doc pm an cdv ct) ps sp := by
  refine ⟨len, fun A outer s H args us vs Q E hr e0 hb r hsp => ?_⟩
  have hl := len _ _ _ _ hsp
  have KX : K.In s.heap := e0.mod.kin.keeps fun b o e => (e0.bs b o e).1
  have lim : s.heap.NoLimit := e0.mod.nolimit.keeps fun b o e => (e0.bs b o e).1
  have hkind : ∀ y ∈ ps.zip us, scope.names.lookup y.1 = some .local ∨ (scope.names.lookup y.1 = some .cell ∧ ((cellsFrom (s.heap.objs.size + 1) scope.names []).lookup y.1).isSome = true) := fun ⟨n, v⟩ hy => by
    rcases S.par n (List.of_mem_zip hy).1 with q | q
    · exact .inl q
    · exact .inr ⟨q, PySem.W.cellsFrom_some _ _ _ (.inl q)⟩
  refine codeAny_call_function hr.depth (KX _ _ lk) rfl S.co S.gen rfl (PySem.W.codeRec_of KX hcd) (hb _ _ _ _ ?_)
  refine wpAny_newFunctionEnv_cells S.kind hkind fun env he s1 x => ?_
  subst he
  refine ⟨lim.keeps x.toInCall.keep, codeAny_func ?_⟩
  obtain ⟨t, ht, hq⟩ := hbody A outer s H vs Q E (hr.deeper _) hsp
  have I : Inv (cxOf CX P w K mg base N qual scope f cdv A outer s H E) [] (start N vs) H s1 := inv_start S hr.hd e0 hl r x
  refine wpAny_mono (ht [] s1 (start N vs) H _ I hq) (fun fl s' hs => ?_) fun e s' hs => hs
  have fin : ∀ {σ' : St} {H' : Hp} {v : V} {u : Value}, Inv (cxOf CX P w K mg base N qual scope f cdv A outer s H E) [] σ' H' s' → RelV v u → Q v H' → CE outer P w H s Q u s' :=
    fun {σ' H' v u} J rv q => ⟨v, H', J.os, J.bare, J.base, J.hok, rv, q⟩
  cases fl with
  | ret u =>
    obtain ⟨v, σ', H', J, rv, q⟩ := hs
    exact fin J rv q
  | next =>
    obtain ⟨σ', H', J, q⟩ := hs
    exact fin (v := V.non) (u := Value.none) J rfl q
  | brk =>
    obtain ⟨_, _, _, q⟩ := hs
    exact False.elim q
  | cont =>
    obtain ⟨_, _, _, q⟩ := hs
    exact False.elim q
end L2

namespace L2
open PySem PySem.Spec PyProof.Rows
section
variable {X : Cx} {x : Str} {p pos : Pos} {e : Expr} {es : List Expr} {t : TA} {id T : String} {r : List V → Hp → VK → Prop}

noncomputable def tCB (r : List V → Hp → VK → Prop) (t : TA) : TE := fun σ H Q => t σ H fun vs H1 => r vs H1 Q
/-- f(e, ..), f a built-in function -/
theorem pe_callB (hc : CallR X (.builtin id) r) (hg : Gl X x) (hm : X.mg x = none) (hv : bootBuiltins x = some (.builtin id)) (ha : PA X (e :: es) t) (hn : x ≠ "__name__" := by decide) (hdb : (x == ("__debug__" : Str)) = false := by decide)
    (he : starEach (e :: es) X.env = (false, eval e X.env) :: starEach es X.env := by rfl) (hpl : (backTo pos (starEach es X.env)).any (·.1) = false := by rfl) : PE X (.Call (.Name x p) (e :: es) [] pos) (tCB r t) := by
  intro pins s σ H Q I h
  refine wpAny_Call_Name_kw (ld_blt I hg hm hv ?_ hn hdb)
  exact PyProof.Rows.callWith_builtin1 (thn (ha pos pins s σ H _ I h) fun us s1 ⟨vs, H1, I1, r1, q1⟩ => hc pins s1 σ H1 vs us Q I1 r1 q1) he hpl
/-- T(e, ..), T a built-in type -/
theorem pe_callTy (hc : CallR X (.type T) r) (hg : Gl X x) (hm : X.mg x = none) (hv : bootBuiltins x = some (.type T)) (ha : PA X (e :: es) t) (hn : x ≠ "__name__" := by decide) (hdb : (x == ("__debug__" : Str)) = false := by decide)
    (he : starEach (e :: es) X.env = (false, eval e X.env) :: starEach es X.env := by rfl) (hpl : (backTo pos (starEach es X.env)).any (·.1) = false := by rfl) : PE X (.Call (.Name x p) (e :: es) [] pos) (tCB r t) := by
  intro pins s σ H Q I h
  refine wpAny_Call_Name_kw (ld_blt I hg hm hv ?_ hn hdb)
  exact PyProof.Rows.callWith_type1 (thn (ha pos pins s σ H _ I h) fun us s1 ⟨vs, H1, I1, r1, q1⟩ => hc pins s1 σ H1 vs us Q I1 r1 q1) he hpl
end
end L2

namespace HT
open PySem PyProof.Rows

section
open PySem.SeqAt
open PySem.AutoSeq1 (wpAny_loadPart')
open PySem.MeetsSeq PySem.MeetsSeq2 PySem.MeetsSeq3

end

section
variable {prog : Program} {w : World} {A : Around} {E : Value → Shared → Prop} {s : Shared}

/-! ### t[a:b], not the whole -/
/-- a slice's bound as a place among n (d where it is left out) -/
noncomputable def sIx (n d : Nat) : Option Int → Nat
  | none => d
  | some v => if v < 0 then (v + (n : Int)).toNat else min v.toNat n
theorem sIx_nat (n d k : Nat) : sIx n d (some (k : Int)) = min k n := by
  show (if (k : Int) < 0 then ((k : Int) + (n : Int)).toNat else min (k : Int).toNat n) = min k n
  rw [if_neg (by omega), Int.toNat_natCast]
end
end HT

namespace L2
open PySem PySem.Spec PyProof.Rows

/-! ### the parts of a slice -/
noncomputable abbrev TO := St → Hp → (Option Int → Hp → Prop) → Prop
/-- a slice's part (left out, or an int) -/
noncomputable def PO (X : Cx) (e : Option Expr) (t : TO) : Prop :=
  ∀ (pins : List (Addr × Obj)) (s : Shared) (σ : St) (H : Hp) (Q : Option Int → Hp → Prop), Inv X pins σ H s → t σ H Q →
    wpAny (model X.prog X.w) X.A (evalPart e X.env) (fun u s' => ∃ o H', Inv X pins σ H' s' ∧ IsPart u o ∧ Q o H') X.xe s
noncomputable def tNoPart : TO := fun _ H Q => Q none H
noncomputable def tPart (t : TE) : TO := fun σ H Q => t σ H fun x H1 => ∃ i, x = .int i ∧ Q (some i) H1

theorem intsAre_of {ns : List Int} : ∀ {us : List Value}, Vals (ns.map V.int) us → IntsAre us ns := by
  induction ns with
  | nil => intro us r; rw [List.map_nil] at r; cases r; exact .nil
  | cons n ns ih =>
    intro us r
    rw [List.map_cons] at r
    cases r with
    | cons r1 r2 =>
      obtain ⟨t, e⟩ := r1
      subst e
      exact .cons n t (ih r2)

section
variable {X : Cx} {e : Expr} {te : TE} {lo hi : Option Expr} {tl th : TO} {pos p2 : Pos}

theorem po_none : PO X none tNoPart := by
  intro pins s σ H Q I h
  rw [evalPart_none]
  exact wpAny_pure ⟨none, H, I, .none, h⟩
theorem po_some (h : PE X e te) : PO X (some e) (tPart te) := by
  intro pins s σ H Q I hw
  rw [evalPart_some]
  refine thn (h pins s σ H _ I hw) fun u s1 ⟨x, H1, I1, r1, q1⟩ => ?_
  obtain ⟨i, rfl, q⟩ := q1
  obtain ⟨t, rfl⟩ := r1
  exact ⟨some i, H1, I1, .int i t, q⟩

/-- what a slice of a value is, by values: the slice object stands at sl -/
noncomputable def SlR (X : Cx) (r : V → Option Int → Option Int → Hp → VK → Prop) : Prop :=
  ∀ (pins : List (Addr × Obj)) (s : Shared) (σ : St) (H : Hp) (x : V) (v vl vu : Value) (lo hi : Option Int) (sl : Addr) (Q : VK), Inv X pins σ H s → RelV x v → s.heap.IsSliceOf sl vl vu .none → IsPart vl lo → IsPart vu hi → r x lo hi H Q →
    ∃ T id, typeLookup (.type T) "__getitem__" = pure (some (.builtin id)) ∧ s.TypeIs v T ∧ wpAny (model X.prog X.w) X.A (getItem v (.ref sl)) (EP X pins σ Q) X.xe s
noncomputable def tSl (r : V → Option Int → Option Int → Hp → VK → Prop) (te : TE) (tl th : TO) : TE := fun σ H Q => te σ H fun x H1 => tl σ H1 fun l H2 => th σ H2 fun u H3 => r x l u H3 Q
/-- a[lo:hi], any a -/
theorem pe_slice {r : V → Option Int → Option Int → Hp → VK → Prop} (hr : SlR X r) (he : PE X e te) (hl : PO X lo tl) (hu : PO X hi th) : PE X (.Subscript e (.Slice lo hi none p2) pos) (tSl r te tl th) := by
  intro pins s σ H Q I h
  refine Subscript_ (thn (he pins s σ H _ I h) fun v s1 ⟨x, H1, I1, r1, q1⟩ => ?_)
  refine wpAny_Slice (thn (hl pins s1 σ H1 _ I1 q1) fun vl s2 ⟨l, H2, I2, pl, q2⟩ => thn (hu pins s2 σ H2 _ I2 q2) fun vu s3 ⟨u, H3, I3, pu, q3⟩ => ?_)
  rw [evalPart_none]
  refine wpAny_pure ?_
  have I4 : Inv X pins σ H3 { s3 with heap := s3.heap.push { cls := .type "slice", data := .fields #[vl, vu, .none] } } := I3.kept (t' := s3.toks) fun b ob q => Heap.get?_push_of_some _ q
  obtain ⟨T, id, hT, ht, hg⟩ := hr pins { s3 with heap := s3.heap.push { cls := .type "slice", data := .fields #[vl, vu, .none] } } σ H3 x v vl vu l u s3.heap.objs.size Q I4 r1 (Heap.IsSliceOf.new ..) pl pu q3
  show wpAny (model X.prog X.w) X.A (subscriptTail e (.Slice lo hi none p2) v (.ref s3.heap.objs.size)) (EP X pins σ Q) X.xe { s3 with heap := s3.heap.push { cls := .type "slice", data := .fields #[vl, vu, .none] } }
  exact tail_any (ops := [.ref s3.heap.objs.size, v]) ht hT hg (by with_unfolding_all rfl)

/-- the items of xs[lo:hi] -/
noncomputable def cutV (xs : List V) (lo hi : Option Int) : List V := (xs.drop (HT.sIx xs.length 0 lo)).take (HT.sIx xs.length xs.length hi - HT.sIx xs.length 0 lo)
theorem cutV_length (xs : List V) (lo hi : Option Int) : (cutV xs lo hi).length ≤ xs.length := by
  unfold cutV
  rw [List.length_take, List.length_drop]
  omega
/-! ### t < u, t + u -/
end
end L2

namespace L2
open PySem PySem.Spec PyProof.Rows

/-! ### places -/
/-- the place that an index of any sign means -/
noncomputable def ixN (n : Nat) (i : Int) : Option Nat := if 0 ≤ i then (if i < n then some i.toNat else none) else if -(n : Int) ≤ i then some (i + n).toNat else none
noncomputable def atI {α : Type} (xs : List α) (i : Int) : Option α := (ixN xs.length i).bind fun j => xs[j]?
theorem ixN_seq {n : Nat} {i : Int} {j : Nat} (h : ixN n i = some j) : seqIndex? i n = some j ∧ j < n ∧ -(n : Int) ≤ i ∧ i < n := by
  unfold ixN at h
  by_cases h0 : 0 ≤ i
  · rw [if_pos h0] at h
    by_cases h1 : i < n
    · rw [if_pos h1] at h
      have e : i.toNat = j := Option.some.inj h
      exact ⟨by rw [seqIndex_of h0 h1, e], by omega, by omega, h1⟩
    · rw [if_neg h1] at h; cases h
  · rw [if_neg h0] at h
    by_cases h1 : -(n : Int) ≤ i
    · rw [if_pos h1] at h
      have e : (i + n).toNat = j := Option.some.inj h
      exact ⟨by rw [seqIndex_neg (by omega) h1, e], by omega, h1, by omega⟩
    · rw [if_neg h1] at h; cases h
theorem atI_get {α : Type} {xs : List α} {i : Int} {v : α} (h : atI xs i = some v) : ∃ j, seqIndex? i xs.length = some j ∧ xs[j]? = some v ∧ j < xs.length ∧ -(xs.length : Int) ≤ i ∧ i < xs.length := by
  unfold atI at h
  cases e : ixN xs.length i with
  | none => rw [e] at h; cases h
  | some j =>
    rw [e] at h
    obtain ⟨h1, h2, h3, h4⟩ := ixN_seq e
    exact ⟨j, h1, h, h2, h3, h4⟩
theorem atI_nat {α : Type} {xs : List α} {j : Nat} {v : α} (h : xs[j]? = some v) : atI xs (j : Int) = some v := by
  have hj : j < xs.length := (List.getElem?_eq_some_iff.mp h).1
  have e : ixN xs.length (j : Int) = some j := by
    unfold ixN
    rw [if_pos (by omega), if_pos (by omega)]; simp
  unfold atI; rw [e]; exact h
/-! ### what may be subscripted -/
/-- what stands as an index of a plain subscript -/
noncomputable def PlainIx (b : Expr) : Prop := ∀ o i, subscripted b false o i = operate [o, i] (getItem o i)
/-- a subscript by values -/
noncomputable def IxR (X : Cx) (r : R2) : Prop :=
  ∀ (value slice : Expr) (pins : List (Addr × Obj)) (s : Shared) (σ : St) (H : Hp) (x y : V) (v u : Value) (Q : VK), Inv X pins σ H s → RelV x v → RelV y u → r x y H Q →
    subscripted slice false v u = operate [v, u] (getItem v u) → wpAny (model X.prog X.w) X.A (subscriptTail value slice v u) (EP X pins σ Q) X.xe s
/-- a call of a builtin's method by values: the receiver, the arguments -/
noncomputable def MtR (X : Cx) (id : String) (r : V → List V → Hp → VK → Prop) : Prop :=
  ∀ (pins : List (Addr × Obj)) (s : Shared) (σ : St) (H : Hp) (x : V) (xs : List V) (v : Value) (us : List Value) (Q : VK), Inv X pins σ H s → RelV x v → Vals xs us → r x xs H Q →
    wpAny (model X.prog X.w) X.A (call (.builtin id) (v :: us)) (EP X pins σ Q) X.xe s
section
variable {X : Cx} {a b : Expr} {ta tb : TE} {pos : Pos}
/-- a[b] -/
theorem pe_ix {r : R2} (hr : IxR X r) (ha : PE X a ta) (hb : PE X b tb) (hs : PlainIx b) : PE X (.Subscript a b pos) (tOp r ta tb) := by
  intro pins s σ H Q I h
  exact Subscript_ (binT ha hb I h fun v u s2 x y H2 I2 rx ry q => hr a b pins s2 σ H2 x y v u Q I2 rx ry q (hs _ _))

noncomputable def rIxL (K : PySem.W.Frag) : R2 := fun x y H Q => ∃ p xs i v, x = .ref p ∧ y = .int i ∧ SqL K H p xs ∧ atI xs i = some v ∧ Q v H
noncomputable def rIxT (K : PySem.W.Frag) : R2 := fun x y H Q => ∃ p xs i v, x = .ref p ∧ y = .int i ∧ SqT K H p xs ∧ atI xs i = some v ∧ Q v H
noncomputable def rIxS : R2 := fun x y H Q => ∃ z i c, x = .str z ∧ y = .int i ∧ z.length ≤ sizeLine ∧ atI z.cps.toList i = some c ∧ Q (.str ⟨#[c]⟩) H
theorem ix_list : IxR X (rIxL X.K) := by
  intro value slice pins s σ H x y v u Q I rx ry h hs
  obtain ⟨p, xs, i, z, rfl, rfl, hq, he, q⟩ := h
  cases rx
  obtain ⟨t, rfl⟩ := ry
  obtain ⟨its, r, pl, hz⟩ := I.list hq
  obtain ⟨j, h1, h2, h3, h4, h5⟩ := atI_get he
  obtain ⟨w, ew, rw'⟩ := r.get h2
  have hl := r.length
  have hn := line63
  have fin : EP X pins σ Q w s := ⟨z, H, I, rw', q⟩
  by_cases h0 : 0 ≤ i
  · have hj : i.toNat = j := by
      rw [seqIndex_of h0 h5] at h1
      exact Option.some.inj h1
    exact item_listR pl.isList h0 (by omega) (by rw [hj]; simpa using ew) fin hs
  · have hj : (i + (its.toArray.size : Int)).toNat = j := by
      rw [seqIndex_neg (by omega) h4] at h1
      rw [List.size_toArray, ← hl]
      exact Option.some.inj h1
    exact subscriptTail_builtinR (x := w) pl.isList.typeIs slot_list_getitem.lookup
      (wpAny_getItem_list_neg (Q := fun r s' => r = w ∧ EP X pins σ Q r s') pl.isList (by omega) (by rw [List.size_toArray] <;> omega) (by omega) (by rw [hj]; simpa using ew) ⟨rfl, fin⟩) hs
theorem ix_tup : IxR X (rIxT X.K) := by
  intro value slice pins s σ H x y v u Q I rx ry h hs
  obtain ⟨p, xs, i, z, rfl, rfl, hq, he, q⟩ := h
  cases rx
  obtain ⟨t, rfl⟩ := ry
  obtain ⟨its, r, pl, hz⟩ := I.tuple hq
  obtain ⟨j, h1, h2, h3, h4, h5⟩ := atI_get he
  obtain ⟨w, ew, rw'⟩ := r.get h2
  have hl := r.length
  have hn := line63
  have fin : EP X pins σ Q w s := ⟨z, H, I, rw', q⟩
  exact subscriptTail_builtinR (x := w) pl.typeIs slot_tuple_getitem.lookup
    (getItem_tuple (j := j) (Q := fun r s' => r = w ∧ EP X pins σ Q r s') pl (by omega) (by omega) (by rw [List.size_toArray, ← hl]; exact h1) (by simpa using ew) ⟨rfl, fin⟩) hs
theorem ix_str : IxR X rIxS := by
  intro value slice pins s σ H x y v u Q I rx ry h hs
  obtain ⟨z, i, c, rfl, rfl, hz, he, q⟩ := h
  obtain ⟨t, rfl⟩ := rx
  obtain ⟨t', rfl⟩ := ry
  obtain ⟨j, h1, h2, h3, h4, h5⟩ := atI_get he
  have hl : z.cps.toList.length = z.length := by simp [Str.length]
  rw [hl] at h1 h4 h5
  have hn := line63
  exact tail_any (typeIs_str s z t) slot_str_getitem.lookup (getItem_str (c := c) (by
    have e1 : decide (i < -(2 ^ 63 : Int)) = false := decide_eq_false (by omega)
    have e2 : decide (i ≥ 2 ^ 63) = false := decide_eq_false (by omega)
    rw [e1, e2, Bool.or_false]) (by rw [h1]; simpa using h2) ⟨.str ⟨#[c]⟩, H, I.tok _, ⟨_, rfl⟩, q⟩) hs
/-! ### xs[i] = v, any sign -/
/-! ### slices -/
theorem slice_bounds (lo hi : Option Int) (n : Nat) : (sliceBounds lo hi none n).1 = ((HT.sIx n 0 lo : Nat) : Int) ∧ (sliceBounds lo hi none n).2.1 = ((HT.sIx n n hi : Nat) : Int) ∧ (sliceBounds lo hi none n).2.2 = 1 := by
  refine ⟨?_, ?_, rfl⟩
  · cases lo with
    | none => simp [sliceBounds, HT.sIx]
    | some i =>
      simp only [sliceBounds, HT.sIx, Option.getD_none, show (1 : Int) > 0 by decide, if_true]
      by_cases h : i < 0
      · simp only [h, if_true] <;> omega
      · simp only [h, if_false] <;> omega
  · cases hi with
    | none => simp [sliceBounds, HT.sIx]
    | some i =>
      simp only [sliceBounds, HT.sIx, Option.getD_none, show (1 : Int) > 0 by decide, if_true]
      by_cases h : i < 0
      · simp only [h, if_true] <;> omega
      · simp only [h, if_false] <;> omega
theorem slicePick_cut (its : List Value) (lo hi : Option Int) : slicePick its.toArray lo hi none = ((its.drop (HT.sIx its.length 0 lo)).take (HT.sIx its.length its.length hi - HT.sIx its.length 0 lo)).toArray := by
  obtain ⟨h1, h2, h3⟩ := slice_bounds lo hi its.toArray.size
  unfold slicePick
  rw [h1, h2, h3]
  simp only [sliceRange_one, pick_run, List.size_toArray] <;> rfl
/-- xs[lo:hi] of a list: a new list -/
noncomputable def rSlL (K : PySem.W.Frag) : V → Option Int → Option Int → Hp → VK → Prop := fun x lo hi H Q => ∃ a xs, x = .ref a ∧ SqL K H a xs ∧ ∀ p, H p = none → Q (.ref p) (upd H p (.lst (cutV xs lo hi)))
theorem sl_list : SlR X (rSlL X.K) := by
  intro pins s σ H x v vl vu lo hi sl Q I rx hs pl pu h
  obtain ⟨a, xs, rfl, hx, q⟩ := h
  cases rx
  obtain ⟨its, r, ht, hz⟩ := I.list hx
  have hlen := r.length
  refine ⟨"list", _, slot_list_getitem.lookup, ht.isList.typeIs, ?_⟩
  refine wpAny_getItem_list_slice ht.isList hs pl pu .none (by simp) ?_ (by rw [List.size_toArray] <;> omega)
  rw [slicePick_cut, ← hlen]
  refine ⟨.ref s.heap.objs.size, _, I.laid (t' := s.toks) (o := .lst (cutV xs lo hi)) (fun b ob q => Heap.get?_push_of_some _ q) (Nat.le_refl _) ?_, rfl, q _ (I.hok.fresh (Nat.le_refl _))⟩
  exact ⟨Nat.le_trans (cutV_length xs lo hi) hz, _, 0, (r.drop (HT.sIx xs.length 0 lo)).take (HT.sIx xs.length xs.length hi - HT.sIx xs.length 0 lo), Heap.get?_push_size _ rfl⟩

/-! ### in, not in: flat items -/
/-- == of flat values -/
noncomputable def eqV : V → V → Bool
  | .non, .non => true
  | .bl a, .bl b => a == b
  | .bl a, .int b => (if a then 1 else 0) == b
  | .int a, .bl b => a == (if b then 1 else 0)
  | .int a, .int b => a == b
  | .str a, .str b => a == b
  | _, _ => false
/-! ### len, list(x), tuple(x) of any list or tuple that is read -/
theorem call_len_seq : CallR X (.builtin "len") (fun xs H Q => ∃ p ys, xs = [.ref p] ∧ (SqL X.K H p ys ∨ SqT X.K H p ys) ∧ Q (.int ys.length) H) := by
  intro pins s σ H xs us Q I r h
  obtain ⟨p, ys, rfl, hq, q⟩ := h
  obtain ⟨u, rfl, rx⟩ := vals1 r
  cases rx
  have hn := line63
  rcases hq with hq | hq
  · obtain ⟨its, r', pl, hz⟩ := I.list hq
    have hlen := r'.length
    exact Calls.call_len_list pl.isList (by simp only [List.size_toArray] <;> omega) ⟨.int ys.length, H, I.tok _, ⟨s.toks + 1, by rw [List.size_toArray, hlen]⟩, q⟩
  · obtain ⟨its, r', pl, hz⟩ := I.tuple hq
    have hlen := r'.length
    exact len_tuple pl (by simp only [List.size_toArray] <;> omega) ⟨.int ys.length, H, I.tok _, ⟨s.toks + 1, by rw [List.size_toArray, hlen]⟩, q⟩
theorem call_len_str : CallR X (.builtin "len") (fun xs H Q => ∃ z, xs = [.str z] ∧ z.length ≤ sizeLine ∧ Q (.int z.length) H) := by
  intro pins s σ H xs us Q I r h
  obtain ⟨z, rfl, hz, q⟩ := h
  obtain ⟨u, rfl, t, rfl⟩ := vals1 r
  have hn := line63
  exact len_str (by omega) ⟨.int z.length, H, I.tok _, ⟨_, rfl⟩, q⟩
theorem call_list_of : CallR X (.type "list") (fun xs H Q => ∃ p ys, xs = [.ref p] ∧ (SqL X.K H p ys ∨ SqT X.K H p ys) ∧ ∀ l, H l = none → Q (.ref l) (upd H l (.lst ys))) := by
  intro pins s σ H xs us Q I r h
  obtain ⟨p, ys, rfl, hq, q⟩ := h
  obtain ⟨u, rfl, rx⟩ := vals1 r
  cases rx
  have fin : ∀ (its : List Value), Vals ys its → ys.length ≤ sizeLine → ∀ (h' : Heap) (c' : Nat), (∀ b o', s.heap.get? b = some o' → h'.get? b = some o') →
      h'.get? s.heap.objs.size = some { cls := .type "list", dict := none, data := .seq its.toArray c', slots := #[] } → EP X pins σ Q (.ref s.heap.objs.size) { s with heap := h' } := fun its r' hz h' c' kp e =>
    ⟨.ref s.heap.objs.size, _, I.laid (t' := s.toks) kp (Nat.le_refl _) (show ObjOk X.prog X.w _ h' _ (.lst ys) from ⟨hz, its, c', r', e⟩), rfl, q _ (I.hok.fresh (Nat.le_refl _))⟩
  rcases hq with hq | hq
  · obtain ⟨its, r', pl, hz⟩ := I.list hq
    have hlen := r'.length
    obtain ⟨o, ho, hc, n, hd⟩ := pl.isList
    exact call_list_seq p (.inl rfl) ho hc hd (fun h' c' kp e => fin its r' hz h' c' kp e) (by simp only [List.size_toArray] <;> omega)
  · obtain ⟨its, r', pl, hz⟩ := I.tuple hq
    have hlen := r'.length
    obtain ⟨o, ho, hc, n, hd⟩ := pl
    exact call_list_seq p (.inr rfl) ho hc hd (fun h' c' kp e => fin its r' hz h' c' kp e) (by simp only [List.size_toArray] <;> omega)
theorem call_tuple_of : CallR X (.type "tuple") (fun xs H Q => ∃ p ys, xs = [.ref p] ∧ ((SqL X.K H p ys ∧ ∀ l, H l = none → Q (.ref l) (upd H l (.tup ys))) ∨ (SqT X.K H p ys ∧ Q (.ref p) H))) := by
  intro pins s σ H xs us Q I r h
  obtain ⟨p, ys, rfl, h⟩ := h
  obtain ⟨u, rfl, rx⟩ := vals1 r
  cases rx
  rcases h with ⟨hq, q⟩ | ⟨hq, q⟩
  · obtain ⟨its, r', pl, hz⟩ := I.list hq
    have hlen := r'.length
    refine call_tuple_list pl.isList (fun h' kp => ?_) (by simp only [List.size_toArray] <;> omega)
    have I1 : Inv X pins σ H { s with heap := h' } := I.kept (t' := s.toks) kp
    have I2 : Inv X pins σ (upd H h'.objs.size (.tup ys)) { s with heap := h'.push { cls := .type "tuple", data := .seq its.toArray } } :=
      I1.laid (t' := s.toks) (fun b o e => Heap.get?_push_of_some _ e) (Nat.le_refl _) (show ObjOk X.prog X.w _ _ _ (.tup ys) from ⟨hz, its, r', IsTup.new _ _⟩)
    exact ⟨.ref h'.objs.size, _, I2, rfl, q _ (I1.hok.fresh (Nat.le_refl _))⟩
  · obtain ⟨its, r', pl, hz⟩ := I.tuple hq
    exact call_tuple_same pl ⟨.ref p, H, I, rfl, q⟩

/-! ### the call of a builtin's method: o.m(..) -/
/-- the value is of that builtin type -/
noncomputable def tyV (K : PySem.W.Frag) (T : String) (x : V) (H : Hp) : Prop := match x with
  | .str _ => T = "str"
  | .int _ => T = "int"
  | .ref p => (T = "list" ∧ ∃ xs, SqL K H p xs) ∨ (T = "tuple" ∧ ∃ o, K.lookup p = some o ∧ o.cls = .type "tuple" ∧ o.dict = none) ∨
      (T = "dict" ∧ ((∃ kvs, H p = some (.dK kvs)) ∨ ∃ kvs, H p = some (.dT kvs))) ∨ (T = "set" ∧ ∃ S n, H p = some (.set S n))
  | _ => False
theorem tyV_is {pins : List (Addr × Obj)} {σ : St} {H : Hp} {s : Shared} {T : String} {x : V} {v : Value} (I : Inv X pins σ H s) (r : RelV x v) (ty : tyV X.K T x H) :
    s.TypeIs v T ∧ ∀ a, v = .ref a → ∃ ob, s.heap.get? a = some ob ∧ ob.dict = none := by
  cases x with
  | str z =>
    obtain ⟨t, rfl⟩ := r
    cases (show T = "str" from ty)
    exact ⟨typeIs_str s z t, fun _ e => nomatch e⟩
  | int i =>
    obtain ⟨t, rfl⟩ := r
    cases (show T = "int" from ty)
    exact ⟨typeIs_int s i t, fun _ e => nomatch e⟩
  | ref p =>
    cases r
    rcases ty with ⟨rfl, xs, hq⟩ | ⟨rfl, o, hk, hc, hd⟩ | ⟨rfl, hk⟩ | ⟨rfl, S, n, hk⟩
    · obtain ⟨its, _, pl, _⟩ := I.list hq
      refine ⟨pl.isList.typeIs, fun a e => ?_⟩
      cases e
      obtain ⟨o, n, e, c, hd, _⟩ := pl
      exact ⟨o, e, hd⟩
    · refine ⟨⟨o, I.kIn p o hk, hc⟩, fun a e => ?_⟩
      cases e
      exact ⟨o, I.kIn _ o hk, hd⟩
    · have z : ∃ o, s.heap.get? p = some o ∧ o.ExactDict := by
        rcases hk with ⟨kvs, hk⟩ | ⟨kvs, hk⟩
        · obtain ⟨_, _, _, _, o, _, _, e, ex, _⟩ := I.hok p _ hk
          exact ⟨o, e, ex⟩
        · obtain ⟨_, _, _, _, o, _, _, e, ex, _⟩ := I.hok p _ hk
          exact ⟨o, e, ex⟩
      obtain ⟨o, e, ex⟩ := z
      refine ⟨⟨o, e, ex.1⟩, fun a e2 => ?_⟩
      cases e2
      exact ⟨o, e, ex.2.1⟩
    · obtain ⟨o, _, _, _, e, ex, _⟩ := I.hok p _ hk
      refine ⟨⟨o, e, ex.1⟩, fun a e2 => ?_⟩
      cases e2
      exact ⟨o, e, ex.2.1⟩
  | _ => exact False.elim ty
noncomputable def tBM0 (K : PySem.W.Frag) (T : String) (r : V → List V → Hp → VK → Prop) (to : TE) : TE := fun σ H Q => to σ H fun x H1 => tyV K T x H1 ∧ r x [] H1 Q
noncomputable def tBM (K : PySem.W.Frag) (T : String) (r : V → List V → Hp → VK → Prop) (to : TE) (t : TA) : TE := fun σ H Q => to σ H fun x H1 => tyV K T x H1 ∧ t σ H1 fun xs H2 => r x xs H2 Q
variable {o e : Expr} {es : List Expr} {to : TE} {t : TA} {name : Str} {apos cpos : Pos} {T id : String} {r : V → List V → Hp → VK → Prop}
theorem pe_bm0 (pa : PlainAttrs T) (slot : Slot T name id) (hty : typeOf (.builtin id) = pure (.type "method_descriptor")) (hm : MtR X id r) (ho : PE X o to)
    (hbase : attributeBase o name X.env (eval o X.env) = eval o X.env := by rfl) (hline : (apos.endLine == cpos.line) = true := by rfl) : PE X (.Call (.Attribute o name apos) [] [] cpos) (tBM0 X.K T r to) := by
  intro pins s σ H Q I h
  refine wpAny_Call_method0_late hbase hline (thn (ho pins s σ H _ I h) fun v s1 ⟨x, H1, I1, r1, ty, q1⟩ => ?_)
  obtain ⟨h1, h2⟩ := tyV_is I1 r1 ty
  exact ⟨T, id, pa, slot, hty, h1, h2, Calls.callWith_builtin rfl (PySem.evalArgs_none (hm pins s1 σ H1 x [] v [] Q I1 r1 .nil q1))⟩
theorem pe_bm (pa : PlainAttrs T) (slot : Slot T name id) (hty : typeOf (.builtin id) = pure (.type "method_descriptor")) (hm : MtR X id r) (ho : PE X o to) (ha : PA X (e :: es) t)
    (hbase : attributeBase o name X.env (eval o X.env) = eval o X.env := by rfl)
    (hfew : ((backTo cpos (starEach (e :: es) X.env)).all (fun x => !x.1) && (backToKw cpos (keywordEach [] X.env)).all (fun x => x.1.isSome)
      && decide ((e :: es).length + ([] : List Keyword).length + (if ([] : List Keyword).isEmpty then 0 else 1) < 30)) = true := by rfl)
    (hline : (apos.endLine == cpos.line) = true := by rfl) (hs : starEach (e :: es) X.env = (false, eval e X.env) :: starEach es X.env := by rfl) (hplain : (backTo cpos (starEach es X.env)).any (·.1) = false := by rfl) :
    PE X (.Call (.Attribute o name apos) (e :: es) [] cpos) (tBM X.K T r to t) := by
  intro pins s σ H Q I h
  refine wpAny_Call_method_late hbase hfew hline rfl (thn (ho pins s σ H _ I h) fun v s1 ⟨x, H1, I1, r1, ty, q1⟩ => ?_)
  obtain ⟨h1, h2⟩ := tyV_is I1 r1 ty
  refine ⟨T, id, pa, slot, hty, h1, h2, ?_⟩
  have hA := ha cpos pins s1 σ H1 _ I1 q1
  rw [hs] at hA ⊢
  refine Calls.callWith_builtin (by show (false || (backTo cpos (starEach es X.env)).any (·.1)) = false; rw [hplain] <;> rfl) (Calls.evalArgs_plain ?_)
  exact thn hA fun us s2 ⟨vs, H2, I2, r2, q2⟩ => hm pins s2 σ H2 x vs v us Q I2 r1 r2 q2
/- xs.append(e), list.index on a module's tuple .. are MtR facts of 06m -/
end
end L2

namespace L2
open PySem PySem.Spec PyProof.Rows

noncomputable def MtM (X : Cx) (id : String) (r : V → List V → Hp → VK → Prop) : Prop :=
  ∀ (pins : List (Addr × Obj)) (s : Shared) (σ : St) (H : Hp) (x : V) (xs : List V) (v : Value) (us : List Value) (Q : VK), Inv X pins σ H s → RelV x v → Vals xs us → r x xs H Q →
    wpAny (model X.prog X.w) X.A (call (.builtin id) (v :: us)) (EP X pins σ Q) X.xe s

/-! ### lists of values -/
theorem Vals.one : ∀ {x : V} {us : List Value}, Vals [x] us → ∃ u, us = [u] ∧ RelV x u
  | _, _, .cons r .nil => ⟨_, rfl, r⟩
theorem Vals.zero : ∀ {us : List Value}, Vals [] us → us = []
  | _, .nil => rfl
theorem Vals.reverse {xs : List V} {us : List Value} (h : Vals xs us) : Vals xs.reverse us.reverse := by
  induction h with
  | nil => exact .nil
  | cons r t ih => rw [List.reverse_cons, List.reverse_cons]; exact Vals.append ih (.cons r .nil)
section
variable {X : Cx} {pins : List (Addr × Obj)} {σ : St} {H : Hp} {s : Shared} {l b : Addr} {xs ys zs : List V}

/-! ### the two steps: a tracked list is rewritten, a new list is laid -/
theorem Inv.lset {its its' : List Value} {n : Nat} {f : Array Value → Array Value} {t' : Nat} (I : Inv X pins σ H s) (hH : H l = some (.lst xs))
    (e : s.heap.get? l = some { cls := .type "list", data := .seq its.toArray n }) (hf : f its.toArray = its'.toArray) (hv : Vals ys its') (hz : ys.length ≤ sizeLine) :
    Inv X pins σ (upd H l (.lst ys)) { s with heap := s.heap.update l (Obj.mapSeq f), toks := t' } := by
  have q := PySem.IsL.update e f
  rw [hf] at q
  refine I.write (x := l) (e := l) (by rw [hH]; exact trivial) (.inl rfl) (fun b' u hb hu => (Heap.get?_update_other s.heap (Obj.mapSeq f) (Ne.symm hb)).trans hu) ⟨_, q⟩ ?_
  exact ⟨hz, its', _, hv, q⟩
theorem Inv.lnew {its : List Value} {t' : Nat} (I : Inv X pins σ H s) (hv : Vals ys its) (hz : ys.length ≤ sizeLine) :
    Inv X pins σ (upd H s.heap.objs.size (.lst ys)) { s with heap := s.heap.push { cls := .type "list", data := .seq its.toArray }, toks := t' } :=
  I.laid (fun _ _ q => Heap.get?_push_of_some _ q) (Nat.le_refl _) ⟨hz, its, 0, hv, Heap.get?_push_size _ rfl⟩
theorem Inv.fresh (I : Inv X pins σ H s) : H s.heap.objs.size = none := I.hok.fresh (Nat.le_refl _)
theorem Inv.lstM (I : Inv X pins σ H s) (hH : H l = some (.lst xs)) : xs.length ≤ sizeLine ∧ ∃ (its : List Value) (n : Nat), Vals xs its ∧ xs.length = its.length ∧ s.heap.get? l = some { cls := .type "list", data := .seq its.toArray n } := by
  obtain ⟨z, its, n, r, e⟩ := I.hok l _ hH
  exact ⟨z, its, n, r, r.length, e⟩

end

section
variable {X : Cx}

/-! ### methods -/
noncomputable def rAppend : V → List V → Hp → VK → Prop := fun x vs H Q => ∃ l xs y, x = .ref l ∧ vs = [y] ∧ H l = some (.lst xs) ∧ xs.length < sizeLine ∧ Q .non (upd H l (.lst (xs ++ [y])))
theorem mt_append : MtM X "list.append" rAppend := by
  intro pins s σ H x vs v us Q I rx rv h
  obtain ⟨l, xs, y, rfl, rfl, hH, hz, q⟩ := h
  cases rx
  obtain ⟨u, rfl, ru⟩ := rv.one
  obtain ⟨z, its, n, r, hl, e⟩ := I.lstM hH
  refine call_meets F.slot_list_append ⟨_, e, rfl⟩ F.entry_list_append (F.args_list_append_2 _ _) (PySem.list_append l its.toArray n u (by rw [List.size_toArray]; omega)) ⟨e, ?_⟩
  refine ⟨.non, _, I.lset (its' := its ++ [u]) hH e (by simp) (r.append (.cons ru .nil)) ?_, rfl, q⟩
  rw [List.length_append, List.length_singleton]
  omega

/-! ### list + list, list += list, list * int -/
/-! ### del xs[i] -/
end

/-! ### xs[a:b] = ys -/
section
variable {prog : Program} {w : World} {A : Around} {E : Value → Shared → Prop} {s : Shared}
end

section
variable {X : Cx}
end
end L2

namespace Att
open PySem PySem.W PySem.Calls PyProof.Rows

/-! ### the script -/
theorem ints_of_wellAll {P : Params} {h : Heap} : ∀ (ns : List Int) (vs : List Value), WellAll P h vs (ns.map WData.int) → IntsAre vs ns := by
  intro ns
  induction ns with
  | nil =>
    intro vs w
    rw [List.map_nil] at w
    cases w
    exact .nil
  | cons n ns ih =>
    intro vs w
    rw [List.map_cons] at w
    cases w with
    | cons a b =>
      cases a
      exact .cons _ _ (ih _ b)

theorem script_of {l : OpenLaw} {n : Nat} (hn : l.most = some n) {P : Params} {h : Heap} {args : List WData} {vals : List Value}
    (hpre : l.row.toRowW.claim.pre args = true) (hwl : WellAll P h vals args) :
    ∃ a vs ns, vals = [Value.ref a] ∧ args = [WData.list (ns.map WData.int)] ∧ h.get? a = some { cls := .type "list", data := .seq vs.toArray } ∧ IntsAre vs ns ∧ ns.length ≤ n := by
  have hsh : WShape.hasAll [] args [.list .int] = true := (pre_splitW hpre).1
  have hc : l.pre.holds [] { args := args } = true := (pre_splitW hpre).2
  obtain ⟨d, r, rfl, h1, h2⟩ := hasAllW_cons hsh
  obtain rfl := hasAllW_nil h2
  obtain ⟨xs, rfl, h3⟩ := hasW_list h1
  obtain ⟨ns, rfl⟩ := items_int h3
  have hlen : ns.length ≤ n := by
    unfold OpenLaw.pre at hc
    have h4 : (WTm.not (.lt (.lit (.int (n : Int))) (.len (.arg 0)))).holds [] { args := [.list (ns.map .int)] } = true := by
      have h4 := (holds_andW hc).1
      rw [hn] at h4
      exact h4
    have h5 := condW_of h4 (w_not (w_lt w_lit (w_len_list (w_arg rfl))))
    rw [List.length_map] at h5
    refine Nat.le_of_not_lt fun q => ?_
    have q' : (n : Int) < ((ns.length : Nat) : Int) := by omega
    first
      | (rw [decide_eq_true q'] at h5; exact absurd h5 (by decide))
      | (simp at h5; omega)
  cases hwl with
  | cons w1 w2 =>
    cases w2
    cases w1 with
    | list ho hall => exact ⟨_, _, ns, rfl, rfl, ho, ints_of_wellAll ns _ hall, hlen⟩

theorem post_true (l : OpenLaw) (args : List WData) : l.row.toRowW.claim.post args (.bool true) args = true :=
  postW_of (r := l.row.toRowW) (X := (true == true))
    (show WShape.has [] (.bool true) .bool = true by first | rfl | decide | simp [WShape.has, WShape.arms, WShape.armsAll])
    (show (WTm.eq .res (.lit (.bool true))).value [] { args := args, res := some (.bool true), after := args } = some (.bool (true == true)) from w_eq_bool (w_res rfl) w_lit) rfl

/-! ### the attachment: holds_open's last premise (the goal 'hc' behind k_head) from a wpAny of the law's body -/
/-- the same from a codeAny of the CALL (for a layer whose function contracts speak of calls) -/
theorem attach_call {l : OpenLaw} {n : Nat} {q : Program} {loose : List Str} {XP : (Str → Option Value) → Heap → Prop} {YP : World → Heap → Prop} {d : DefRec}
    (hn : l.most = some n) (hdf : d.params.defaults = [])
    (call : ∀ (w : World) (s₀ s₁ : Shared) (mg mb : Str → Option Value) (fa : Addr) (o : Obj) (pm cd doc : Value) (a : Addr) (vs : List Value) (ns : List Int),
      Ground q loose [] XP w s₀ mg mb s₁.heap → YP w s₁.heap →
      s₁.heap.get? fa = some o → o.data = .func (docDef d.name d.params d.body d.scope pm cd doc) → s₁.heap.CodeRec cd d.name → mg d.name = some (.ref fa) →
      s₁.heap.get? a = some { cls := .type "list", data := .seq vs.toArray } → IntsAre vs ns → ns.length ≤ n → s₁.gens = #[] →
      codeAny (model l.prog w) callerA (.call (.ref fa) ⟨[.ref a], []⟩) (fun r s' => r = .ok (.ret (.bool true)) ∧ OldK s₁.heap s'.heap ∧ s'.os = s₁.os ∧ AllBare s'.gens) s₁) :
    WalkO q loose XP YP l.row.toRowW d [] (fun f vs => PySem.call f vs) := by
  intro w s₀ s₁ mg mb G Y fa o pm cd doc dV kV ho hd hcd hD hmg hg args vals as hpre hlay hrd hwl hlo
  obtain rfl : dV = .none := Dflts.none hD hdf
  obtain rfl : kV = .none := Dflts.noKw hD
  obtain ⟨a, vs, ns, rfl, rfl, hobj, hints, hlen⟩ := script_of hn hpre hwl
  refine enter_call (codeAny_mono (call w s₀ s₁ mg mb fa o pm cd doc a vs ns G Y ho (fd_plain hd) hcd hmg hobj hints hlen hg) fun r s' hq => ?_)
  obtain ⟨rfl, h2, h3, h4⟩ := hq
  exact ⟨.inl ⟨.bool true, .bool true, [], rfl, fun _ => rfl, .bool true, post_true l _, fun _ => ⟨List.Pairwise.nil, fun _ hm => (nomatch hm)⟩⟩, h2, h3, h4⟩

/-! ### rules over ANY heap (no ledger) from facts about the written part K: the library's own take a ledger (News) for what they write -/
section
variable {prog : Program} {w : World} {A : Around} {E : Value → Shared → Prop} {s : Shared} {K : Frag}

/-! the whole heap as the ledger: makes every rule that writes through a ledger a rule over any heap -/
end
end Att

namespace L2
open PySem PySem.Spec PyProof.Rows

theorem vals_ints : ∀ {vs : List Value} {ns : List Int}, IntsAre vs ns → Vals (ns.map V.int) vs
  | _, _, .nil => .nil
  | _, _, .cons n t h => .cons ⟨t, rfl⟩ (vals_ints h)

/-- nothing is tracked but the script, known to the object (or it is an object of the module) -/
noncomputable def Only (H : Hp) : Prop := ∀ b, H b = none ∨ ∃ o xs, H b = some (.frz o (.lst xs))

/-- THE HEAD: the law's promise, at the heap behind the top. F, the promise of the law's def, may use that base is part of the heap (so K.In base, base.Ns mainGlobals mg stand in Mod) -/
theorem law_call {P : Program} {w : World} {K : PySem.W.Frag} {mg mb : Str → Option Value} {CX : CXT} {k : Nat} {fa a : Addr} {fd : FuncData} {x : Str} {sp : Sp} {s₁ : Shared} {vs : List Value} {ns : List Int}
    (KX : K.In s₁.heap) (hns : s₁.heap.Ns mainGlobals mg) (hb : s₁.heap.Ns builtinsNs mb) (hbb : ∀ x : Str, x ≠ "__name__" → mb x = bootBuiltins x) (hlim : s₁.heap.NoLimit) (hg : s₁.gens = #[])
    (ha : s₁.heap.get? a = some { cls := .type "list", data := .seq vs.toArray }) (hi : IntsAre vs ns) (hl : ns.length ≤ sizeLine) (hr : Room k callerA)
    (F : ∀ base : Heap, K.In base → base.Ns mainGlobals mg → FnOk P w K mg base CX k fa fd [x] sp) (hbind : ∀ (s : Shared) (u : Value), BindsTo s fd ⟨[u], []⟩ [(x, u)])
    (hsp : ∀ H : Hp, Only H → SqL K H a (ns.map V.int) → sp [.ref a] H (fun v _ => v = .bl true) fun _ _ _ => False)
    (hCX : ∀ H e s', CX [] H s₁ (fun _ _ _ => False) e s' → False) :
    codeAny (model P w) callerA (.call (.ref fa) ⟨[.ref a], []⟩) (fun r s' => r = .ok (.ret (.bool true)) ∧ OldK s₁.heap s'.heap ∧ s'.os = s₁.os ∧ AllBare s'.gens) s₁ := by
  have rv := vals_ints hi
  have lenV := hi.length
  -- from an abstract heap in which nothing but the script may be tracked
  have core : ∀ H : Hp, Only H → SqL K H a (ns.map V.int) → HOk P w H s₁.heap → (∀ b, H b ≠ none → b = a) → (H a ≠ none → K.lookup a = none) →
      codeAny (model P w) callerA (.call (.ref fa) ⟨[.ref a], []⟩) (fun r s' => r = .ok (.ret (.bool true)) ∧ OldK s₁.heap s'.heap ∧ s'.os = s₁.os ∧ AllBare s'.gens) s₁ := by
    intro H hO hS hok hA hK
    have base_of : ∀ {b : Addr} {o : Obj}, s₁.heap.get? b = some o → H b = none → (hidT s₁.heap H).get? b = some o := fun e n => hidT_get e n
    have noA : ∀ {b : Addr} {o : Obj} {es : Array DictEntry} {ep : Nat}, s₁.heap.get? b = some o → o.data = .dict es ep → H b = none := fun {b o es ep} e d => by
      cases q : H b with
      | none => rfl
      | some u =>
        have e' : b = a := hA b (by rw [q]; simp)
        subst e'
        rw [ha] at e; cases e
        have d' : Data.seq vs.toArray _ = Data.dict es ep := d
        cases d'
    have nsK : ∀ {b : Addr} {m : Str → Option Value}, s₁.heap.Ns b m → (hidT s₁.heap H).Ns b m := fun {b m} ⟨o, es, ep, e, d, r⟩ => ⟨o, es, ep, base_of e (noA e d), d, r⟩
    have hKb : K.In (hidT s₁.heap H) := fun b o e => base_of (KX b o e) (by
      cases q : H b with
      | none => rfl
      | some u =>
        have e' : b = a := hA b (by rw [q]; simp)
        subst e'
        rw [hK (by rw [q]; simp)] at e; cases e)
    have hM : Mod K mg (hidT s₁.heap H) := ⟨hKb, nsK hns, ⟨mb, nsK hb, hbb⟩, let ⟨mc, h1, h2⟩ := hlim; ⟨mc, nsK h1, h2⟩⟩
    have e0 : Env0 P w K mg (hidT s₁.heap H) callerA [] s₁ H := ⟨rfl, hM, fun b o e => of_hidT e, Nat.le_of_eq (hidT_size _ _), trivial, fun b hb => absurd (show b ∈ ([] : List Addr) from hb) (by simp), hok, .of_eq hg⟩
    refine codeAny_mono ((F _ hKb (nsK hns)).run callerA [] s₁ H ⟨[.ref a], []⟩ [.ref a] [.ref a] _ _ hr e0 (hbind s₁ (.ref a)) (.cons rfl .nil) (hsp H hO hS)) fun r s' h => ?_
    cases r with
    | error e => exact (hCX H e s' h).elim
    | ok fl =>
      cases fl with
      | next => exact False.elim h
      | brk => exact False.elim h
      | cont => exact False.elim h
      | ret u =>
        obtain ⟨v, H', os, bare, un, hok', r', q⟩ := h
        have q' : v = .bl true := q
        subst q'
        obtain rfl : u = Value.bool true := r'
        refine ⟨rfl, OldK.of_keep fun b o e => ?_, os, bare⟩
        cases q : H b with
        | none => exact un.keep b o e q (by intro z; exact absurd (show b ∈ ([] : List Addr) from z) (by simp)) (by simp)
        | some u =>
          rcases hO b with z | ⟨ob, xs, z⟩
          · rw [q] at z; cases z
          · have z2 := un.frzs b ob _ z
            obtain ⟨e1, _⟩ := hok b _ z
            obtain ⟨e2, _⟩ := hok' b _ z2
            rw [e] at e1; cases e1
            exact e2
  cases hk : K.lookup a with
  | some o =>
    -- the script is one of the module's own objects
    have e := KX a o hk
    rw [ha] at e
    cases e
    refine core (fun _ => none) (fun _ => .inl rfl) (.inr ⟨_, vs.toArray, _, hk, rfl, rfl, rfl, by rw [List.size_toArray, lenV]; exact hl, by simpa using rv⟩) (fun b u z => by have z' : (none : Option HO) = some u := z; cases z') (fun b z => absurd rfl z) fun z => absurd rfl z
  | none =>
    refine core (fun b => if b = a then some (.frz { cls := .type "list", data := .seq vs.toArray } (.lst (ns.map V.int))) else none) (fun b => ?_) (.inl (.inr ⟨{ cls := .type "list", data := .seq vs.toArray }, if_pos rfl⟩)) (fun b u z => ?_) (fun b z => ?_) fun _ => hk
    · by_cases hb : b = a
      · exact .inr ⟨_, _, if_pos hb⟩
      · exact .inl (if_neg hb)
    · by_cases hb : b = a
      · have z' := (if_pos hb).symm.trans z
        cases z'
        subst hb
        exact ⟨ha, by rw [List.length_map]; exact hl, vs, _, rv, ha⟩
      · have z' := (if_neg hb).symm.trans z
        cases z'
    · by_cases hb : b = a
      · exact hb
      · exact absurd (if_neg hb) z
end L2

namespace L2
open PySem PySem.Spec PyProof.Rows

noncomputable abbrev KOf {K : PySem.W.Frag} {h : Heap} (_ : K.In h) : PySem.W.Frag := K

/-- the goal that k_head leaves (case hc), from the law's promise. F gives the function object fd (K's own) once, then the promise over every base -/
theorem walk_of {l : PySem.W.OpenLaw} {n k : Nat} {q : Program} {loose : List Str} {XP : (Str → Option Value) → Heap → Prop} {YP : World → Heap → Prop} {d : DefRec} {K : Params → PySem.W.Frag} {CX : World → CXT} {sp : World → Sp} {x : Str}
    (hn : l.most = some n) (hn2 : n ≤ sizeLine) (hdf : d.params.defaults = []) (hr : Room k callerA)
    (hY : ∀ (w : World) (h : Heap), YP w h → (K w.params).In h)
    (F : ∀ (w : World) (mg : Str → Option Value) (fa : Addr) (h : Heap), (K w.params).In h → h.Ns mainGlobals mg → mg d.name = some (.ref fa) →
      ∃ fd : FuncData, (∀ (s : Shared) (u : Value), BindsTo s fd ⟨[u], []⟩ [(x, u)]) ∧
        ∀ base : Heap, (K w.params).In base → base.Ns mainGlobals mg → FnOk l.prog w (K w.params) mg base (CX w) k fa fd [x] (sp w))
    (hsp : ∀ (w : World) (H : Hp) (a : Addr) (ns : List Int), ns.length ≤ n → Only H → SqL (K w.params) H a (ns.map V.int) → sp w [.ref a] H (fun v _ => v = .bl true) fun _ _ _ => False)
    (hCX : ∀ (w : World) (H : Hp) (s : Shared) (e : Value) (s' : Shared), CX w [] H s (fun _ _ _ => False) e s' → False) :
    PySem.W.WalkO q loose XP YP l.row.toRowW d [] (fun f vs => PySem.call f vs) := by
  refine Att.attach_call hn hdf fun w s₀ s₁ mg mb fa o pm cd doc a vs ns G Y ho hd hcd hmg hobj hints hlen hg => ?_
  have KX := hY w _ Y
  obtain ⟨fd, hb, hF⟩ := F w mg fa _ KX G.T.g hmg
  exact law_call KX G.T.g G.T.b G.T.builtins G.T.nolimit hg hobj hints (Nat.le_trans hlen hn2) hr hF hb (fun H hO hS => hsp w H a ns hlen hO hS) fun H e s' => hCX w H s₁ e s'
/-- the same where the promise hangs on the written part alone: (sp := My.sp_law), no hole under a binder -/
theorem walk_ofK {l : PySem.W.OpenLaw} {n k : Nat} {q : Program} {loose : List Str} {XP : (Str → Option Value) → Heap → Prop} {YP : World → Heap → Prop} {d : DefRec} {K : Params → PySem.W.Frag} {CX : CXT} {sp : PySem.W.Frag → Sp} {x : Str}
    (hn : l.most = some n) (hn2 : n ≤ sizeLine) (hdf : d.params.defaults = []) (hr : Room k callerA)
    (hY : ∀ (w : World) (h : Heap), YP w h → (K w.params).In h)
    (F : ∀ (w : World) (mg : Str → Option Value) (fa : Addr) (h : Heap), (K w.params).In h → h.Ns mainGlobals mg → mg d.name = some (.ref fa) →
      ∃ fd : FuncData, (∀ (s : Shared) (u : Value), BindsTo s fd ⟨[u], []⟩ [(x, u)]) ∧
        ∀ base : Heap, (K w.params).In base → base.Ns mainGlobals mg → FnOk l.prog w (K w.params) mg base CX k fa fd [x] (sp (K w.params)))
    (hsp : ∀ (K : PySem.W.Frag) (H : Hp) (a : Addr) (ns : List Int), ns.length ≤ n → Only H → SqL K H a (ns.map V.int) → sp K [.ref a] H (fun v _ => v = .bl true) fun _ _ _ => False)
    (hCX : ∀ (H : Hp) (s : Shared) (e : Value) (s' : Shared), CX [] H s (fun _ _ _ => False) e s' → False) :
    PySem.W.WalkO q loose XP YP l.row.toRowW d [] (fun f vs => PySem.call f vs) :=
  walk_of (K := K) (CX := fun _ => CX) (sp := fun w => sp (K w.params)) hn hn2 hdf hr hY F (fun w H a ns h1 h2 h3 => hsp (K w.params) H a ns h1 h2 h3) fun _ H s e s' => hCX H s e s'
end L2

/-! SHORT WORDS over the layer: a def of the text, its body, what a loop and a test want. -/
namespace L2
open PySem PySem.Spec PyProof.Rows

/-! ### the text by places -/
noncomputable def defArgs (s : Stmt) : Arguments := match s with
  | .FunctionDef _ a _ _ _ _ _ _ _ _ => a
  | _ => { posonlyargs := [], args := [], vararg := none, kwonlyargs := [], kw_defaults := [], kwarg := none, defaults := [] }
noncomputable def defBody (s : Stmt) : List Stmt := match s with
  | .FunctionDef _ _ b _ _ _ _ _ _ _ => b
  | _ => []
noncomputable def defScope (s : Stmt) : Scope := match s with
  | .FunctionDef _ _ _ _ _ _ sc _ _ _ => sc
  | _ => { kind := .function, names := [], isGenerator := false, isCoroutine := false }

/-! ### no exception leaves a def -/
noncomputable abbrev CX0 : CXT := fun _ _ _ _ _ _ => False
noncomputable abbrev E0 : XK := fun _ _ _ => False
theorem pass0 {X : Cx} : Passes CX0 X E0 := fun _ _ _ _ _ _ _ h => h.elim

/-! ### a def (or method) of the text as it stands behind the top -/
structure Fun (K : PySem.W.Frag) (x qual : Str) (st : Stmt) (f : Addr) (fd : FuncData) : Prop where
  ex : ∃ (oc : Value) (od : Option Addr) (kV doc pm : Value) (an : Option Addr) (cdv ct : Value) (osl : Array (Option Value)),
    fd = PySem.W.fnOf x qual (defArgs st) (defBody st) (defScope st) .none kV doc pm an cdv ct ∧ K.lookup f = some ⟨oc, od, .func fd, osl⟩ ∧ PySem.W.codeIn K cdv qual = true
  kp : PySem.W.keepIn K (.ref f) = true
section
variable {P : Program} {w : World} {K : PySem.W.Frag} {mg : Str → Option Value} {base : Heap}
/-- THE RULE for a def: its body as a term of rules, and the reading of that term -/
theorem Fun.ok {x qual : Str} {st : Stmt} {f : Addr} {fd : FuncData} {N ps : List Str} {k : Nat} {sp : Sp} (F : Fun K x qual st f fd) (S : FnScope N ps (defScope st)) (len : ∀ vs H Q E, sp vs H Q E → vs.length = ps.length)
    (hbody : ∀ (cdv : Value) (A : Around) (outer : List Env) (s : Shared) (H : Hp) (vs : List V) (Q : VK) (E : XK), Room k (A.deeper (envOfC qual (defScope st) s.heap.objs.size f cdv)) → sp vs H Q E →
      ∃ t, PSs (cxOf CX0 P w K mg base N qual (defScope st) f cdv A outer s H E).nox (defBody st) t ∧ t { nx := fun _ H' => Q .non H', rt := Q } (start N vs) H) : FnOk P w K mg base CX0 (k + 1) f fd ps sp := by
  obtain ⟨oc, od, kV, doc, pm, an, cdv, ct, osl, rfl, lk, hcd⟩ := F.ex
  refine fn_of lk hcd S len fun A outer s H vs Q E hr hsp => ?_
  obtain ⟨t, h, q⟩ := hbody cdv A outer s H vs Q E hr hsp
  exact ⟨t, h.nox, q⟩
/-- how its arguments bind (no defaults): h is «fun _ _ _ _ _ _ us hl => match us, hl with | [_, _], _ => rfl», one _ a parameter -/
theorem Fun.binds {x qual : Str} {st : Stmt} {f : Addr} {fd : FuncData} {ps : List Str} (F : Fun K x qual st f fd)
    (h : ∀ (kV doc pm : Value) (an : Option Addr) (cdv ct : Value) (us : List Value), us.length = ps.length → bindArgs (PySem.W.fnOf x qual (defArgs st) (defBody st) (defScope st) .none kV doc pm an cdv ct) ⟨us, []⟩ = pure (ps.zip us)) : Binds K fd ps [] := by
  obtain ⟨oc, od, kV, doc, pm, an, cdv, ct, osl, rfl, lk, hcd⟩ := F.ex
  exact .all (h kV doc pm an cdv ct)
theorem fun_mk {x qual : Str} {st : Stmt} {f : Addr} {oc : Value} {od an : Option Addr} {osl : Array (Option Value)} {kV doc pm cdv ct : Value} (l : K.lookup f = some ⟨oc, od, .func (PySem.W.fnOf x qual (defArgs st) (defBody st) (defScope st) .none kV doc pm an cdv ct), osl⟩)
    (c : PySem.W.codeIn K cdv qual = true) (k : PySem.W.keepIn K (.ref f) = true) : Fun K x qual st f (PySem.W.fnOf x qual (defArgs st) (defBody st) (defScope st) .none kV doc pm an cdv ct) := ⟨⟨oc, od, kV, doc, pm, an, cdv, ct, osl, rfl, l, c⟩, k⟩
end
theorem hu_of {A : Around} {k : Nat} (hr : Room k A) : A.units + 1 < cLine := Nat.lt_of_le_of_lt (Nat.add_le_add_left (by decide : 1 ≤ 64) _) hr.units
theorem small1000 {n : Nat} (h : n ≤ 1000) : n < sizeLine := Nat.lt_of_le_of_lt h (by decide)

/-! ### expressions in short: the name that stands in the i-th slot -/
section
variable {X : Cx}
theorem pv (i : Nat) {x : Str} {pos : Pos} (hN : X.N[i]? = some x := by rfl) (hv : Vis X.env.scope x := by first | exact Or.inl rfl | exact Or.inr (Or.inl rfl) | exact Or.inr (Or.inr rfl)) (hd : (x == ("__debug__" : Str)) = false := by decide)
    (hcd : (x == ("__classdict__" : Str)) = false := by decide) : PE X (.Name x pos) (tVar i) := pe_var hN hv hd hcd
end

/-! ### tests -/
theorem iteF {A B : Prop} (h : B) : if false = true then A else B := by
  rw [if_neg Bool.false_ne_true]
  exact h
theorem iteT {A B : Prop} (h : A) : if true = true then A else B := by
  rw [if_pos rfl]
  exact h
theorem ite2 {c A B : Prop} [Decidable c] (h1 : c → A) (h2 : ¬ c → B) : if c then A else B := by
  by_cases h : c
  · rw [if_pos h]
    exact h1 h
  · rw [if_neg h]
    exact h2 h
/-! ### heaps -/
/-- all that was tracked is as it was -/
noncomputable def Same (H H' : Hp) : Prop := ∀ b o, H b = some o → H' b = some o
theorem Same.refl (H : Hp) : Same H H := fun _ _ h => h
theorem Same.trans {H H1 H2 : Hp} (a : Same H H1) (b : Same H1 H2) : Same H H2 := fun c o h => b c o (a c o h)
theorem Same.free {H H' : Hp} (e : Same H H') {l : Addr} (h : H' l = Option.none) : H l = Option.none := by
  cases q : H l with
  | none => rfl
  | some o =>
    rw [e l o q] at h
    cases h
theorem Same.seq {K : PySem.W.Frag} {H H' : Hp} {a : Addr} {xs : List V} (e : Same H H') (h : SqL K H a xs) : SqL K H' a xs := by
  rcases h with (h | ⟨o, h⟩) | h
  · exact .inl (.inl (e _ _ h))
  · exact .inl (.inr ⟨o, e _ _ h⟩)
  · exact .inr h

end L2
namespace L2
open PySem PySem.Spec PyProof.Rows

/-! ### a comprehension's block -/
section
variable {X : Cx}
noncomputable abbrev cxComp (X : Cx) (N' : List Str) (scope : Scope) (cl : List (Str × Addr)) (C : Addr) (ex : List Addr) (s : Shared) (H : Hp) : Cx where
  prog := X.prog
  w := X.w
  K := X.K
  mg := X.mg
  base := X.base
  A := X.A
  N := N'
  s₀ := s
  H₀ := H
  env := compEnvC scope cl C X.env
  outer := X.stack
  stack := X.stack
  ex := ex
  fn := fun x => (cl.lookup x).isNone
  calm := X.calm
  pn := []
  xe := fun _ _ => False
noncomputable def PIfs (X : Cx) (ifs : List Expr) (t : TT) : Prop :=
  ∀ (pins : List (Addr × Obj)) (s : Shared) (σ : St) (H : Hp) (Q : Bool → Hp → Prop), Inv X pins σ H s → t σ H Q →
    wpAny (model X.prog X.w) X.A (forIn ifs true fun c r => if r = true then do let ok ← isTrue c X.env (eval c X.env); pure (ForInStep.yield ok) else pure (ForInStep.yield r)) (TP X pins σ Q) X.xe s
noncomputable def tYes : TT := fun _ H Q => Q true H
theorem pifs_nil : PIfs X [] tYes := fun _ _ _ H _ I h => wpAny_tests_nil ⟨H, I, h⟩
theorem pifs_one {c : Expr} {t : TT} (h : PT X c t) : PIfs X [c] t := fun pins s σ H Q I q => wpAny_tests_one (h pins s σ H Q I q)

/-- what was known of the slots is still so -/
noncomputable def Wk (σ σ2 : St) : Prop := σ.length = σ2.length ∧ ∀ (i : Nat) v, σ[i]? = some (some v) → σ2[i]? = some (some v)
noncomputable def compSt (n : Nat) (js : List Nat) (σ : St) : St := List.replicate n none ++ js.map fun j => (σ[j]?).join
noncomputable def tComp (wi : TI) (g : TG) (tt : TT) (te : TE) (n : Nat) (js : List Nat) : TE := fun σ H Q => wi σ H fun J H1 => ∀ D, H1 D = none → ∃ W : Nat → Nat → List V → Hp → Prop, (∃ m, W 0 m [] (upd H1 D (.lst []))) ∧ ∀ i m acc H2, W i m acc H2 →
  (J.stop i H2 ∧ Q (.ref D) H2) ∨ (J.go i H2 ∧ ∃ N : List V → Hp → Prop, (∀ acc' H', N acc' H' → ∃ m', m' < m ∧ W (i + 1) m' acc' H') ∧ ∀ x H3, J.yld i H2 x H3 → g x (compSt n js σ) H3 fun σ2 H4 => tt σ2 H4 fun b H5 =>
    if b = true then te σ2 H5 fun y H6 => H6 D = some (.lst acc) ∧ acc.length < sizeLine ∧ N (acc ++ [y]) (upd H6 D (.lst (acc ++ [y]))) else N acc H5)

theorem inv_comp {pins : List (Addr × Obj)} {σ : St} {H : Hp} {s : Shared} {fp : List Addr} {scope : Scope} {cl : List (Str × Addr)} {own : List Str} {fr : List (Str × Nat)} {h1 : Heap} {m0 : Str → Option Value} {tk : Nat}
    (I : Inv X pins σ H s) (hf : ∀ b ∈ fp, FpOk X pins H b) (hlt : ∀ b ∈ fp, b < s.heap.objs.size) (hkind : scope.kind = .function)
    (hcl : ∀ x c, cl.lookup x = some c → X.env.cells.lookup x = some c)
    (hkin : ∀ x, ((relabel scope X.env).names.lookup x = some .cell ∨ (relabel scope X.env).names.lookup x = some .free) → ∃ c, cl.lookup x = some c)
    (hfr : ∀ p ∈ fr, X.N[p.2]? = some p.1 ∧ X.env.kindOf p.1 = some .cell)
    (hvis : ∀ p ∈ fr, (relabel scope X.env).names.lookup p.1 = some .cell)
    (hn : h1.Ns s.heap.objs.size m0) (kk : ∀ b u, s.heap.get? b = some u → h1.get? b = some u) :
    Inv (cxComp X (own ++ fr.map (·.1)) scope cl s.heap.objs.size fp s H) [] (compSt own.length (fr.map (·.2)) σ) H { s with heap := h1, toks := tk } := by
  refine ⟨⟨I.ok.mod, hkind, I.ok.glob, I.ok.blt, Nat.le_refl _, fun x y c e1 e2 => I.ok.inj x y c (hcl x c e1) (hcl y c e2), hkin, fun x c h e => ?_, I.ok.hd, I.ok.frames, .inl rfl, fun b hb => ?_, I.bs, Nat.le_trans I.ok.bsz I.sz, fun b o e hb => ?_, fun b hb z => ?_, I.stack, I.stkFree⟩,
    rfl, I.bare, Un.kept kk, ⟨m0, hn, fun i x v e1 e2 e3 => ?_⟩, fun x c e => ?_, I.hok.fresh (Nat.le_refl _), fun x c e => I.freeC x c (hcl x c e), fun p hp => absurd (show p ∈ ([] : List (Addr × Obj)) from hp) (by simp), I.hok.kept kk, ?_⟩
  · have h' : (cl.lookup x).isNone = true := h
    have e' : cl.lookup x = some c := e
    rw [e'] at h'; cases h'
  · exact ⟨Nat.ne_of_lt (hlt b hb), fun x c e => (hf b hb).2.2.2.2.1 x c (hcl x c e)⟩
  · rcases (hf b hb).2.2.2.1 with z | z
    · exact I.ok.noex b o e z
    · exact absurd (Nat.lt_of_lt_of_le (Heap.lt_size (I.ok.bs b o e).1) z) (Nat.lt_irrefl _)
  · rcases List.mem_cons.mp (I.stkSub b z) with e | e
    · exact (hf b hb).2.1 e
    · exact (hf b hb).2.2.1 e
  · have e1' : (own ++ fr.map (·.1))[i]? = some x := e1
    have e2' : (List.replicate own.length none ++ (fr.map (·.2)).map fun j => (σ[j]?).join)[i]? = some (some v) := e2
    by_cases hi : i < own.length
    · rw [List.getElem?_append_left (by simpa using hi), List.getElem?_replicate] at e2'
      split at e2' <;> cases e2'
    · rw [List.getElem?_append_right (by omega)] at e1'
      rw [List.getElem?_append_right (by simpa using hi)] at e2'
      simp only [List.length_replicate, List.getElem?_map, Option.map_map] at e1' e2'
      cases q : fr[i - own.length]? with
      | none => rw [q] at e1'; cases e1'
      | some p =>
        rw [q] at e1' e2'
        simp only [Option.map_some, Option.some.injEq] at e1' e2'
        subst e1'
        have hp : p ∈ fr := List.mem_of_getElem? q
        obtain ⟨m, _, hl⟩ := I.loc
        have e3' : σ[p.2]? = some (some v) := by
          cases z : σ[p.2]? with
          | none => rw [Function.comp_apply, z] at e2'; cases e2'
          | some y => rw [Function.comp_apply, z] at e2'; simp only [Option.join] at e2'; rw [← e2']; rfl
        obtain ⟨u, r, l⟩ := hl p.2 p.1 v (hfr p hp).1 e3' (.inr (.inl (hfr p hp).2))
        refine ⟨u, r, ?_⟩
        rcases l with ⟨k, _⟩ | ⟨_, c, hc, z⟩
        · rw [(hfr p hp).2] at k; cases k
        · obtain ⟨c', hc'⟩ := hkin p.1 (.inl (hvis p hp))
          have e4 := hcl _ _ hc'
          rw [hc] at e4; cases e4
          obtain ⟨o, ho, hd⟩ := z
          exact .inr ⟨.inl (hvis p hp), c, hc', ⟨o, kk _ _ ho, hd⟩⟩
  · obtain ⟨v, o, ho, hd⟩ := I.cell x c (hcl x c e)
    exact ⟨v, o, kk _ _ ho, hd⟩
  · show (compSt own.length (fr.map (·.2)) σ).length = (own ++ fr.map (·.1)).length
    simp [compSt]

theorem compLoop_any {prog : Program} {w : World} {A : Around} {R : Result → Shared → Prop} {s : Shared} {elt target iter : Expr} {ifs : List Expr} {scope : Scope} {pos : Pos} {it acc : Value} {env : Env} (I : Nat → Shared → Prop)
    (turn : ∀ n s, I n s → wpAny (model prog w) A (pyNext it) (fun r s₁ => match r with
      | none => R (.ok .next) s₁
      | some v => wpAny (model prog w) A (letOwnedTupleGo target it v) (fun _ s₁' => wpAny (model prog w) A (assign target env v) (fun _ s₂ =>
          wpAny (model prog w) A (forIn ifs true fun c r => if r = true then do let ok ← isTrue c env (eval c env); pure (ForInStep.yield ok) else pure (ForInStep.yield r)) (fun ok s₃ =>
            if ok = true then wpAny (model prog w) A (eval elt env) (fun x s₄ =>
              wpAny (model prog w) A (call (.builtin "list.append") [acc, x]) (fun _ s₅ => ∃ m, m < n ∧ I m s₅) (notedBy (model prog w) A env fun e s' => R (.error e) s') s₄) (notedBy (model prog w) A env fun e s' => R (.error e) s') s₃
            else ∃ m, m < n ∧ I m s₃) (notedBy (model prog w) A env fun e s' => R (.error e) s') s₂) (notedBy (model prog w) A env fun e s' => R (.error e) s') s₁') (notedBy (model prog w) A env fun e s' => R (.error e) s') s₁) (notedBy (model prog w) A env fun e s' => R (.error e) s') s)
    (n : Nat) (h : I n s) :
    codeAny (model prog w) A (.compLoop (.ListComp elt [⟨target, iter, ifs, 0⟩] scope pos) 0 it acc env) R s := by
  refine codeAny_loop rfl I (fun n s hI => ?_) n h
  show wpAny _ A ((compTurn (.ListComp elt [⟨target, iter, ifs, 0⟩] scope pos) 0 it acc env).onRaise (fun x => do noteFrame x env; theTreesLotGoes x)) _ _ s
  refine wpAny_noted ?_
  rw [compTurn_list]
  refine wpAny_bind (wpAny_standAt (wpAny_bind (wpAny_mono (turn n s hI) (fun r s₁ h₁ => ?_) fun _ _ h' => h')))
  cases r with
  | none => exact wpAny_pure h₁
  | some v =>
    refine wpAny_bind (wpAny_mono h₁ (fun _ s₁' h₁' => ?_) fun _ _ h' => h')
    refine wpAny_bind (wpAny_mono h₁' (fun _ s₂ h₂ => wpAny_bind (wpAny_mono h₂ (fun ok s₃ h₃ => ?_) fun _ _ h' => h')) fun _ _ h' => h')
    cases ok with
    | false => exact wpAny_pure ⟨rfl, h₃⟩
    | true =>
      exact wpAny_bind (wpAny_bind (wpAny_mono h₃ (fun x s₄ h₄ => wpAny_bind (wpAny_mono h₄ (fun _ s₅ h₅ => wpAny_pure (wpAny_pure ⟨rfl, h₅⟩)) fun _ _ h' => h')) fun _ _ h' => h'))

theorem comp_block {elt tg iter : Expr} {ifs : List Expr} {scope : Scope} {pos : Pos} {g : TG} {tt : TT} {te : TE} {own : List Str} {fr : List (Str × Nat)} {cl : List (Str × Addr)}
    {pins : List (Addr × Obj)} {σ : St} {H : Hp} {s : Shared} {Q : VK} {it D : Addr} {fp : List Addr} {tn : Nat → Heap → Prop} {J : It} {W : Nat → Nat → List V → Hp → Prop} {m0 : Nat} {RR : Value → Addr → Result → Shared → Prop}
    (hRR : ∀ (s6 : Shared) (H5 : Hp) (m : Str → Option Value), Inv X pins σ H5 s6 → s6.heap.Ns s.heap.objs.size m → FpOk X pins H5 s.heap.objs.size → Q (.ref D) H5 → RR (.ref D) s.heap.objs.size (.ok .next) s6)
    (hc : X.calm = true) (hkind : scope.kind = .function) (hnc : ∀ y ∈ scope.names, y.2 ≠ .cell)
    (hcl : ∀ x c, cl.lookup x = some c → X.env.cells.lookup x = some c)
    (hkin : ∀ x, ((relabel scope X.env).names.lookup x = some .cell ∨ (relabel scope X.env).names.lookup x = some .free) → ∃ c, cl.lookup x = some c)
    (hfr : ∀ p ∈ fr, X.N[p.2]? = some p.1 ∧ X.env.kindOf p.1 = some .cell) (hvis : ∀ p ∈ fr, (relabel scope X.env).names.lookup p.1 = some .cell)
    (hw : ∀ x σ H R, σ.length = own.length + fr.length → (∀ (i : Nat), i < own.length → σ[i]? = some none) → g x σ H R → g x σ H fun σ2 H2 => Wk σ σ2 ∧ R σ2 H2)
    (hg : ∀ C ex s H, PG (cxComp X (own ++ fr.map (·.1)) scope cl C ex s H) tg g)
    (ht : ∀ C ex s H, PIfs (cxComp X (own ++ fr.map (·.1)) scope cl C ex s H) ifs tt)
    (he : ∀ C ex s H, PE (cxComp X (own ++ fr.map (·.1)) scope cl C ex s H) elt te)
    (I : Inv X pins σ H s) (T : Turn X.prog X.w X.K tg J fp it tn) (st : tn 0 s.heap) (hf : ∀ b ∈ fp, FpOk X pins H b) (w0 : W 0 m0 [] H)
    (turn : ∀ i m acc H2, W i m acc H2 → (J.stop i H2 ∧ Q (.ref D) H2) ∨ (J.go i H2 ∧ ∃ N : List V → Hp → Prop, (∀ acc' H', N acc' H' → ∃ m', m' < m ∧ W (i + 1) m' acc' H') ∧ ∀ x H3, J.yld i H2 x H3 → g x (compSt own.length (fr.map (·.2)) σ) H3 fun σ2 H4 => tt σ2 H4 fun b H5 =>
      if b = true then te σ2 H5 fun y H6 => H6 D = some (.lst acc) ∧ acc.length < sizeLine ∧ N (acc ++ [y]) (upd H6 D (.lst (acc ++ [y]))) else N acc H5)) :
    wpAny (model X.prog X.w) X.A (newFunctionEnv scope X.env.globals cl [] X.env.qual none .none (some X.env)) (fun cenv s₄ =>
      codeAny (model X.prog X.w) X.A (.compStart (.ListComp elt [⟨tg, iter, ifs, 0⟩] scope pos) 0 (.ref it) (.ref D) { cenv with scope := relabel scope X.env })
        (RR (.ref D) cenv.locals) s₄) X.xe s := by
  have hlt : ∀ b ∈ fp, b < s.heap.objs.size := fun b hb => by
    obtain ⟨o, e, _⟩ := T.obj 0 _ st b hb
    exact Heap.lt_size e
  refine wpAny_newFunctionEnv hnc (by intro y hy; simp at hy) (fun h₁ hns hsb => ?_) hkind
  have kk : ∀ b u, s.heap.get? b = some u → h₁.get? b = some u := fun b u e => (hsb.2 b (Nat.ne_of_lt (Heap.lt_size e))).trans (Heap.get?_push_of_some _ e)
  have I4 : Inv (cxComp X (own ++ fr.map (·.1)) scope cl s.heap.objs.size fp s H) [] (compSt own.length (fr.map (·.2)) σ) H { s with heap := h₁, toks := s.toks + ([] : List (Str × Value)).length } :=
    inv_comp I hf hlt hkind hcl hkin hfr hvis hns kk
  have st4 : tn 0 h₁ := T.keep _ _ _ st fun b _ o e => kk b o e
  have hσ : (compSt own.length (fr.map (·.2)) σ).length = own.length + fr.length := by simp [compSt]
  have hσ0 : ∀ (i : Nat), i < own.length → (compSt own.length (fr.map (·.2)) σ)[i]? = some none := fun i hi => by
    unfold compSt
    rw [List.getElem?_append_left (by simpa using hi), List.getElem?_replicate, if_pos hi]
  have stat : ∀ {H' : Hp}, (∀ b ∈ fp, H' b = none) → ∀ b ∈ fp, FpOk (cxComp X (own ++ fr.map (·.1)) scope cl s.heap.objs.size fp s H) [] H' b := fun hn b hb =>
    ⟨hn b hb, Nat.ne_of_lt (hlt b hb), fun z => (List.mem_cons.mp (I.stkSub b z)).elim (hf b hb).2.1 (hf b hb).2.2.1, .inl hb, fun x c e => (hf b hb).2.2.2.2.1 x c (hcl x c e), fun p hp => absurd (show p ∈ ([] : List (Addr × Obj)) from hp) (by simp)⟩
  have loop : ∀ s4 : Shared, s4 = { s with heap := h₁, toks := s.toks + ([] : List (Str × Value)).length } →
      codeAny (model X.prog X.w) X.A (.compLoop (.ListComp elt [⟨tg, iter, ifs, 0⟩] scope pos) 0 (.ref it) (.ref D) (compEnvC scope cl s.heap.objs.size X.env))
        (RR (.ref D) s.heap.objs.size) s4 := by
    rintro s4 rfl
    refine compLoop_any (fun n s' => ∃ i acc H', Inv (cxComp X (own ++ fr.map (·.1)) scope cl s.heap.objs.size fp s H) [] (compSt own.length (fr.map (·.2)) σ) H' s' ∧ tn i s'.heap ∧ (∀ b ∈ fp, H' b = none) ∧ W i n acc H') ?_ m0
      ⟨0, [], H, I4, st4, fun b hb => (hf b hb).1, w0⟩
    rintro n s5 ⟨i, acc, H5, I5, st5, fr5, w5⟩
    rcases turn i n acc H5 w5 with ⟨stop, q⟩ | ⟨go, N, hN, step⟩
    · refine wpAny_mono (T.done (cxComp X (own ++ fr.map (·.1)) scope cl s.heap.objs.size fp s H) rfl rfl rfl hc i [] s5 _ H5 _ I5 (stat fr5) st5 stop) (fun r s6 ⟨hr, I6⟩ => ?_) (fun _ _ z => z)
      subst hr
      obtain ⟨m6, hn6, _⟩ := id I6.loc
      have I7 : Inv X pins σ H5 s6 := I.call' (ch := fp) I6.os I6.base I6.hok I6.bare (fun b hb => ⟨(hf b hb).2.2.2.1, (hf b hb).2.1, (hf b hb).2.2.2.2.1, (hf b hb).2.2.2.2.2⟩)
      exact hRR s6 H5 m6 I7 hn6 (I.fpOk (H' := H5) (Nat.le_refl _) I6.free) q
    · refine wpAny_mono (T.item (cxComp X (own ++ fr.map (·.1)) scope cl s.heap.objs.size fp s H) rfl rfl rfl hc i [] s5 _ H5 _ I5 (stat fr5) st5 go) (fun r s6 ⟨u, hr, h6⟩ => ?_) (fun _ _ z => z)
      subst hr
      refine wpAny_mono h6 (fun _ s7 ⟨x, H7, I7, r7, y7, st7, fr7⟩ => ?_) (fun _ _ z => z)
      have I7' := I7.pinned (stat fr7) (T.obj _ _ st7)
      refine wpAny_mono (hg s.heap.objs.size fp s H _ s7 _ H7 x u _ I7' r7 (hw x _ H7 _ hσ hσ0 (step x H7 y7))) (fun _ s8 ⟨σ8, H8, I8, wk, q8⟩ => ?_) (fun _ _ z => False.elim z)
      have again : ∀ {s10 : Shared} {H10 : Hp} {acc' : List V}, Inv (cxComp X (own ++ fr.map (·.1)) scope cl s.heap.objs.size fp s H) ([] ++ pinsAt fp s7.heap) σ8 H10 s10 → N acc' H10 →
          ∃ m, m < n ∧ ∃ i acc H', Inv (cxComp X (own ++ fr.map (·.1)) scope cl s.heap.objs.size fp s H) [] (compSt own.length (fr.map (·.2)) σ) H' s10 ∧ tn i s10.heap ∧ (∀ b ∈ fp, H' b = none) ∧ W i m acc H' := fun {s10 H10 acc'} I10 n10 => by
        obtain ⟨m', hm, w10⟩ := hN acc' H10 n10
        refine ⟨m', hm, i + 1, acc', H10, I10.unpinned.weak wk.1 wk.2, T.keep _ _ _ st7 fun b hb o e => (I10.pin (b, o) (List.mem_append_right _ (List.mem_append_right _ (mem_pinsAt hb e)))).1, fun b hb => ?_, w10⟩
        obtain ⟨o, e, d⟩ := T.obj _ _ st7 b hb
        exact (I10.pin (b, o) (List.mem_append_right _ (List.mem_append_right _ (mem_pinsAt hb e)))).2.1
      refine wpAny_mono (ht s.heap.objs.size fp s H _ s8 σ8 H8 _ I8 q8) (fun b s9 ⟨H9, I9, q9⟩ => ?_) (fun _ _ z => False.elim z)
      cases b with
      | false =>
        exact again I9 q9
      | true =>
        refine wpAny_mono (he s.heap.objs.size fp s H _ s9 σ8 H9 _ I9 q9) (fun y s10 ⟨yv, H10, I10, r10, hD, hl, n10⟩ => ?_) (fun _ _ z => False.elim z)
        refine wpAny_mono (mt_append (X := cxComp X (own ++ fr.map (·.1)) scope cl s.heap.objs.size fp s H) _ s10 σ8 H10 (.ref D) [yv] (.ref D) [y] (fun _ H' => H' = upd H10 D (.lst (acc ++ [yv]))) I10 rfl (.cons r10 .nil) ⟨D, acc, yv, rfl, rfl, hD, hl, rfl⟩) (fun _ s11 ⟨_, H11, I11, _, e11⟩ => ?_) (fun _ _ z => False.elim z)
        subst e11
        exact again I11 n10
  exact codeAny_compStart_list (loop _ rfl) (T.self _ 0 _ _ _ st4 (loop _ rfl))

theorem pe_lcomp {elt tg iter : Expr} {ifs : List Expr} {scope : Scope} {pos : Pos} {wi : TI} {g : TG} {tt : TT} {te : TE} (own : List Str) (fr : List (Str × Nat)) (cl : List (Str × Addr))
    (hc : X.calm = true) (hclos : closureFor scope X.env = pure cl) (hkind : scope.kind = .function) (hnc : ∀ y ∈ scope.names, y.2 ≠ .cell)
    (hnames : ∀ y ∈ scope.names, y.2 = .local → scope.names.lookup y.1 = some .local)
    (hcl : ∀ x c, cl.lookup x = some c → X.env.cells.lookup x = some c)
    (hkin : ∀ x, ((relabel scope X.env).names.lookup x = some .cell ∨ (relabel scope X.env).names.lookup x = some .free) → ∃ c, cl.lookup x = some c)
    (hfr : ∀ p ∈ fr, X.N[p.2]? = some p.1 ∧ X.env.kindOf p.1 = some .cell) (hvis : ∀ p ∈ fr, (relabel scope X.env).names.lookup p.1 = some .cell)
    (hw : ∀ x σ H R, σ.length = own.length + fr.length → (∀ (i : Nat), i < own.length → σ[i]? = some none) → g x σ H R → g x σ H fun σ2 H2 => Wk σ σ2 ∧ R σ2 H2)
    (hi : PI X tg iter wi)
    (hg : ∀ C ex s H, PG (cxComp X (own ++ fr.map (·.1)) scope cl C ex s H) tg g)
    (ht : ∀ C ex s H, PIfs (cxComp X (own ++ fr.map (·.1)) scope cl C ex s H) ifs tt)
    (he : ∀ C ex s H, PE (cxComp X (own ++ fr.map (·.1)) scope cl C ex s H) elt te)
    (hs : ∀ x, foldedSetIterable iter X.env x = pure x := by intro _; rfl) :
    PE X (.ListComp elt [⟨tg, iter, ifs, 0⟩] scope pos) (tComp wi g tt te own.length (fr.map (·.2))) := by
  intro pins s σ H Q I h
  rw [eval_ListComp]
  refine wpAny_comprehension_free (use := none) rfl hs hclos hkind hnames (thn (hi pins s σ H _ I h) fun v s1 h1 => thn h1 fun itv s2 h2 => ?_)
  obtain ⟨it, fp, tn, J, H2, e, I2, T, st2, f2, h2⟩ := h2
  subst e
  obtain ⟨W, ⟨m0, w0⟩, turn⟩ := h2 s2.heap.objs.size I2.fresh
  have I3 := I2.lnew (its := []) (ys := []) (t' := s2.toks) .nil (Nat.zero_le _)
  refine wpAny_newObj_type (T := "list") ?_
  refine comp_block (RR := fun acc C => compPost (model X.prog X.w) X.A X.xe none (EP X pins σ Q) acc C) (W := W) (m0 := m0) (D := s2.heap.objs.size) (own := own) (fr := fr)
    (fun s6 H5 m I7 hn fc q => ⟨m, hn, fun h7 sb => ⟨.ref s2.heap.objs.size, H5, I7.turned (t' := s6.toks) (fun b o hb e => (sb.2 b hb).trans e) fc.1 fc.2.1 fc.2.2.2.1 fc.2.2.2.2.1 fc.2.2.2.2.2, rfl, q⟩⟩) hc hkind hnc hcl hkin hfr hvis hw hg ht he I3 T (T.keep _ _ _ st2 fun b _ o e => Heap.get?_push_of_some _ e) (fun b hb => ?_) w0 turn
  obtain ⟨o, e, _⟩ := T.obj _ _ st2 b hb
  exact ⟨by rw [upd_ne (Nat.ne_of_lt (Heap.lt_size e))]; exact (f2 b hb).1, (f2 b hb).2⟩

/-- name = [..] -/
theorem ps_setC {elt tg iter : Expr} {ifs : List Expr} {scope : Scope} {pos spos py : Pos} {y : Str} {i : Nat} {wi : TI} {g : TG} {tt : TT} {te : TE} (hN : X.N.Nodup) (hiy : X.N[i]? = some y) (hy : Loc X.env.scope y) (own : List Str) (fr : List (Str × Nat)) (cl : List (Str × Addr))
    (hc : X.calm = true) (hclos : closureFor scope X.env = pure cl) (hkind : scope.kind = .function) (hnc : ∀ y ∈ scope.names, y.2 ≠ .cell)
    (hnames : ∀ y ∈ scope.names, y.2 = .local → scope.names.lookup y.1 = some .local)
    (hcl : ∀ x c, cl.lookup x = some c → X.env.cells.lookup x = some c)
    (hkin : ∀ x, ((relabel scope X.env).names.lookup x = some .cell ∨ (relabel scope X.env).names.lookup x = some .free) → ∃ c, cl.lookup x = some c)
    (hfr : ∀ p ∈ fr, X.N[p.2]? = some p.1 ∧ X.env.kindOf p.1 = some .cell) (hvis : ∀ p ∈ fr, (relabel scope X.env).names.lookup p.1 = some .cell)
    (hw : ∀ x σ H R, σ.length = own.length + fr.length → (∀ (i : Nat), i < own.length → σ[i]? = some none) → g x σ H R → g x σ H fun σ2 H2 => Wk σ σ2 ∧ R σ2 H2)
    (hi : PI X tg iter wi)
    (hg : ∀ C ex s H, PG (cxComp X (own ++ fr.map (·.1)) scope cl C ex s H) tg g)
    (ht : ∀ C ex s H, PIfs (cxComp X (own ++ fr.map (·.1)) scope cl C ex s H) ifs tt)
    (he : ∀ C ex s H, PE (cxComp X (own ++ fr.map (·.1)) scope cl C ex s H) elt te)
    (hsw : swapsWith (.ListComp elt [⟨tg, iter, ifs, 0⟩] scope pos) (some (.Name y py)) spos.line X.env = pure true := by rfl)
    (hs : ∀ x, foldedSetIterable iter X.env x = pure x := by intro _; rfl)
    (hf : X.fn y = true ∨ X.env.scope.names.lookup y = some .local := by first | exact .inl rfl | exact .inr rfl | assumption) :
    PS X (.Assign [.Name y py] (.ListComp elt [⟨tg, iter, ifs, 0⟩] scope pos) spos) (tAsg (tComp wi g tt te own.length (fr.map (·.2))) (gName i)) := by
  intro pins s σ H D I h
  rw [exec_Assign_Name_used _ _ _ _ hsw]
  refine wpAny_bind (wpAny_standAt (wpAny_bind ?_))
  show wpAny _ _ (do let _ ← comprehension (.ListComp elt [⟨tg, iter, ifs, 0⟩] scope pos) scope X.env _ (newList []) false (eval iter X.env) (some (assign (.Name y py) X.env))) _ _ s
  refine wpAny_bind (wpAny_mono (wpAny_comprehension_free (use := some (assign (.Name y py) X.env)) (Q := fun _ s' => SP X pins D .next s') rfl hs hclos hkind hnames
    (thn (hi pins s σ H _ I h) fun v s1 h1 => thn h1 fun itv s2 h2 => ?_)) (fun _ s' hq => wpAny_pure (wpAny_pure hq)) fun _ _ e => e)
  obtain ⟨it, fp, tn, J, H2, e, I2, T, st2, f2, h2⟩ := h2
  subst e
  obtain ⟨W, ⟨m0, w0⟩, turn⟩ := h2 s2.heap.objs.size I2.fresh
  have I3 := I2.lnew (its := []) (ys := []) (t' := s2.toks) .nil (Nat.zero_le _)
  refine wpAny_newObj_type (T := "list") ?_
  refine comp_block (Q := fun v H5 => gName i v σ H5 D.nx) (RR := fun acc C => compPost (model X.prog X.w) X.A X.xe (some (assign (.Name y py) X.env)) (fun _ s' => SP X pins D .next s') acc C) (W := W) (m0 := m0) (D := s2.heap.objs.size) (own := own) (fr := fr)
    (fun s6 H5 m I7 hn fc q => ?_) hc hkind hnc hcl hkin hfr hvis hw hg ht he I3 T (T.keep _ _ _ st2 fun b _ o e => Heap.get?_push_of_some _ e) (fun b hb => ?_) w0 turn
  · show wpAny _ _ (assign (.Name y py) X.env (.ref s2.heap.objs.size)) _ _ _
    refine wpAny_assign_Name (store_ok2 (v := .ref s2.heap.objs.size) I7 hN hiy hy rfl (fun s' I' hsb => ?_) hf)
    obtain ⟨a, sb, ha⟩ := hsb
    have hne : s2.heap.objs.size + 1 ≠ a ∨ True := .inr trivial
    have hCa : a ≠ ({ s2 with heap := s2.heap.push { cls := .type "list", data := .seq ([] : List Value).toArray }, toks := s2.toks } : Shared).heap.objs.size := by
      rcases ha with rfl | ha
      · exact Ne.symm fc.2.1
      · exact fc.2.2.2.2.1 y a ha
    refine ⟨m, hn.sameBut sb (Ne.symm hCa), fun h7 sb7 => ?_⟩
    exact ⟨_, H5, I'.turned (t' := s'.toks) (fun b o hb e => (sb7.2 b hb).trans e) fc.1 fc.2.1 fc.2.2.2.1 fc.2.2.2.2.1 fc.2.2.2.2.2, q⟩
  · obtain ⟨o, e, _⟩ := T.obj _ _ st2 b hb
    exact ⟨by rw [upd_ne (Nat.ne_of_lt (Heap.lt_size e))]; exact (f2 b hb).1, (f2 b hb).2⟩

/-- the closure of a block, by the names in the order in which it is made -/
noncomputable def clOf (env : Env) (xs : List Str) : List (Str × Addr) := xs.map fun x => (x, (env.cells.lookup x).getD 0)
noncomputable def kinOk (names : List (Str × NameKind)) (xs : List Str) : Bool := names.all fun p => (!(decide (p.2 = .cell)) && !(decide (p.2 = .free))) || decide (p.1 ∈ xs)
theorem clOf_lookup {env : Env} : ∀ {xs : List Str} {x : Str}, x ∈ xs → ∃ c, (clOf env xs).lookup x = some c
  | [], _, h => absurd h (by simp)
  | y :: xs, x, h => by
    show ∃ c, List.lookup x ((y, (env.cells.lookup y).getD 0) :: clOf env xs) = some c
    rw [List.lookup_cons]
    cases e : x == y with
    | true => exact ⟨_, rfl⟩
    | false =>
      rcases List.mem_cons.mp h with rfl | h
      · rw [beq_self_eq_true] at e; cases e
      · exact clOf_lookup h
theorem clOf_cells {env : Env} : ∀ {xs : List Str}, (xs.all fun x => (env.cells.lookup x).isSome) = true → ∀ x c, (clOf env xs).lookup x = some c → env.cells.lookup x = some c
  | [], _, x, c, h => by cases h
  | y :: xs, ha, x, c, h => by
    rw [List.all_cons, Bool.and_eq_true] at ha
    have h' : List.lookup x ((y, (env.cells.lookup y).getD 0) :: clOf env xs) = some c := h
    rw [List.lookup_cons] at h'
    cases e : x == y with
    | true =>
      rw [e] at h'
      have exy : x = y := eq_of_beq e
      subst exy
      have hc : (env.cells.lookup x).getD 0 = c := Option.some.inj h'
      cases q : env.cells.lookup x with
      | none => rw [q] at ha; cases ha.1
      | some z => rw [q] at hc; rw [← hc]; rfl
    | false =>
      rw [e] at h'
      exact clOf_cells ha.2 x c h'
theorem kin_of {names : List (Str × NameKind)} {xs : List Str} {env : Env} (h : kinOk names xs = true) : ∀ x, (names.lookup x = some .cell ∨ names.lookup x = some .free) → ∃ c, (clOf env xs).lookup x = some c := fun x hx => by
  refine clOf_lookup ?_
  unfold kinOk at h
  rw [List.all_eq_true] at h
  rcases hx with hx | hx
  · have := h _ (PySem.mem_of_lookup hx)
    simpa using this
  · have := h _ (PySem.mem_of_lookup hx)
    simpa using this
theorem wk_name {n m i : Nat} (hi : i < n) : ∀ x σ H R, σ.length = n + m → (∀ (k : Nat), k < n → σ[k]? = some none) → gName i x σ H R → gName i x σ H fun σ2 H2 => Wk σ σ2 ∧ R σ2 H2 := fun x σ H R _ h0 h =>
  ⟨⟨by simp, fun k v e => by
    by_cases hk : k = i
    · subst hk; rw [h0 _ hi] at e; cases e
    · rw [List.getElem?_set_ne (Ne.symm hk)]; exact e⟩, h⟩

/-- over a list that stays -/
theorem comp_list {K : PySem.W.Frag} {a : Addr} {xs : List V} {g : TG} {tt : TT} {te : TE} {σ0 : St} {Q : VK} {D : Addr} {H : Hp} (Pv : Nat → List V → Hp → Prop) (h0 : Pv 0 [] H) (hl : ∀ i acc H, i ≤ xs.length → Pv i acc H → SqL K H a xs)
    (hs : ∀ i x acc H2, xs[i]? = some x → Pv i acc H2 → g x σ0 H2 fun σ2 H4 => tt σ2 H4 fun b H5 =>
      if b = true then te σ2 H5 fun y H6 => H6 D = some (.lst acc) ∧ acc.length < sizeLine ∧ Pv (i + 1) (acc ++ [y]) (upd H6 D (.lst (acc ++ [y]))) else Pv (i + 1) acc H5)
    (hd : ∀ acc H2, Pv xs.length acc H2 → Q (.ref D) H2) :
    ∃ W : Nat → Nat → List V → Hp → Prop, (∃ m, W 0 m [] H) ∧ ∀ i m acc H2, W i m acc H2 →
      ((Itl K a).stop i H2 ∧ Q (.ref D) H2) ∨ ((Itl K a).go i H2 ∧ ∃ N : List V → Hp → Prop, (∀ acc' H', N acc' H' → ∃ m', m' < m ∧ W (i + 1) m' acc' H') ∧ ∀ x H3, (Itl K a).yld i H2 x H3 → g x σ0 H3 fun σ2 H4 => tt σ2 H4 fun b H5 =>
        if b = true then te σ2 H5 fun y H6 => H6 D = some (.lst acc) ∧ acc.length < sizeLine ∧ N (acc ++ [y]) (upd H6 D (.lst (acc ++ [y]))) else N acc H5) := by
  refine ⟨fun i m acc H => m = xs.length - i ∧ i ≤ xs.length ∧ Pv i acc H, ⟨xs.length, by simp, Nat.zero_le _, h0⟩, ?_⟩
  rintro i m acc H2 ⟨rfl, hi, p⟩
  have q := hl i acc H2 hi p
  by_cases hlt : i < xs.length
  · refine .inr ⟨⟨xs, xs[i], q, by simp [hlt]⟩, Pv (i + 1), fun acc' H' p' => ⟨xs.length - (i + 1), by omega, rfl, hlt, p'⟩, fun x H3 y => ?_⟩
    obtain ⟨e, y⟩ := y
    subst e
    exact hs i x acc _ (y xs q) p
  · have e : i = xs.length := by omega
    subst e
    exact .inl ⟨⟨xs, q, Nat.le_refl _⟩, hd acc H2 p⟩
end

/-! ### deep data -/
mutual
inductive IsD (K : PySem.W.Frag) (H : Hp) : PyData → V → Prop
  | non : IsD K H .none .non
  | bl (b : Bool) : IsD K H (.bool b) (.bl b)
  | int (i : Int) : IsD K H (.int i) (.int i)
  | str (x : Str) : IsD K H (.str x) (.str x)
  | tup {a : Addr} {vs : List V} {ds : List PyData} : SqT K H a vs → IsDs K H ds vs → IsD K H (.tuple ds) (.ref a)
  | lst {a : Addr} {vs : List V} {ds : List PyData} : SqL K H a vs → IsDs K H ds vs → IsD K H (.list ds) (.ref a)
inductive IsDs (K : PySem.W.Frag) (H : Hp) : List PyData → List V → Prop
  | nil : IsDs K H [] []
  | cons {d : PyData} {v : V} {ds : List PyData} {vs : List V} : IsD K H d v → IsDs K H ds vs → IsDs K H (d :: ds) (v :: vs)
end
section
variable {X : Cx} {pins : List (Addr × Obj)} {σ : St} {H : Hp} {s : Shared}
mutual
theorem IsD.reads (I : Inv X pins σ H s) : ∀ {d : PyData} {v : V} {u : Value}, IsD X.K H d v → RelV v u → ∃ as, Reads s.heap u d as
  | _, _, _, .non, r => by cases r; exact ⟨_, .none⟩
  | _, _, _, .bl b, r => by cases r; exact ⟨_, .bool b⟩
  | _, _, _, .int i, r => by obtain ⟨t, rfl⟩ := r; exact ⟨_, .int i t⟩
  | _, _, _, .str x, r => by obtain ⟨t, rfl⟩ := r; exact ⟨_, .str x t⟩
  | _, _, _, .tup h1 h2, r => by
    cases r
    obtain ⟨its, rv, ⟨o, e, c, n, d⟩, hz⟩ := I.tuple h1
    obtain ⟨as, ra⟩ := IsDs.reads I h2 rv
    exact ⟨_, .tuple e c d (by simpa using ra)⟩
  | _, _, _, .lst h1 h2, r => by
    cases r
    obtain ⟨its, rv, pl, hz⟩ := I.list h1
    obtain ⟨o, e, c, n, d⟩ := pl.isList
    obtain ⟨as, ra⟩ := IsDs.reads I h2 rv
    exact ⟨_, .list e c d (by simpa using ra)⟩
theorem IsDs.reads (I : Inv X pins σ H s) : ∀ {ds : List PyData} {vs : List V} {us : List Value}, IsDs X.K H ds vs → Vals vs us → ∃ as, ReadsAll s.heap us ds as
  | _, _, _, .nil, .nil => ⟨_, .nil⟩
  | _, _, _, .cons h t, .cons r rs => by
    obtain ⟨as, ra⟩ := IsD.reads I h r
    obtain ⟨bs, rb⟩ := IsDs.reads I t rs
    exact ⟨_, .cons ra rb⟩
end
noncomputable def rEqD (K : PySem.W.Frag) : R2 := fun x y H Q => ∃ d1 d2, IsD K H d1 x ∧ IsD K H d2 y ∧ d1.canLay0 = true ∧ d2.canLay0 = true ∧ d2.depth ≤ 50 ∧ Q (.bl (PyData.eqv d1 d2)) H
noncomputable def rNeD (K : PySem.W.Frag) : R2 := fun x y H Q => ∃ d1 d2, IsD K H d1 x ∧ IsD K H d2 y ∧ d1.canLay0 = true ∧ d2.canLay0 = true ∧ d2.depth ≤ 50 ∧ Q (.bl (!PyData.eqv d1 d2)) H
theorem op_eqD (hu : X.A.units + 64 < cLine) : OpR X (compareOp .Eq) (rEqD X.K) := by
  intro pins s σ H x y v u Q I rx ry h
  obtain ⟨d1, d2, h1, h2, c1, c2, hd, q⟩ := h
  obtain ⟨as, ra⟩ := IsD.reads I h1 rx
  obtain ⟨bs, rb⟩ := IsD.reads I h2 ry
  exact SeqAt.rcAt_reads ra rb c1 c2 (by omega) _ _ _ _ (show EP X pins σ Q _ s from ⟨.bl _, H, I, rfl, q⟩)
theorem op_neD (hu : X.A.units + 64 < cLine) : OpR X (compareOp .NotEq) (rNeD X.K) := by
  intro pins s σ H x y v u Q I rx ry h
  obtain ⟨d1, d2, h1, h2, c1, c2, hd, q⟩ := h
  obtain ⟨as, ra⟩ := IsD.reads I h1 rx
  obtain ⟨bs, rb⟩ := IsD.reads I h2 ry
  exact SeqAt.rcNeAt_reads ra rb c1 c2 (by omega) _ _ _ _ (show EP X pins σ Q _ s from ⟨.bl _, H, I, rfl, q⟩)

/-! ### more operations -/
theorem op_fdivB : OpR X (binaryOp .FloorDiv) (rI (fun _ j => 0 < j ∧ j.natAbs.log2 < 9000) fun i j => .int (i / j)) := opI fun i j _ _ _ _ _ hc q => by
  have h1 : (0 : Int) < j := hc.1
  exact floordiv_int (by omega) (by rw [Int.fdiv_eq_ediv_of_nonneg i (by omega)]; exact q) (.inl (PyProof.noPylong_of_log2 hc.2))
noncomputable def rIsi (K : PySem.W.Frag) : List V → Hp → VK → Prop := fun xs H Q => ∃ x n t b, xs = [x, .ty n] ∧ TyOf K H x t ∧ PySem.W.kitOne K t (.type n) = some b ∧ Q (.bl b) H
theorem call_isi : CallR X (.builtin "isinstance") (rIsi X.K) := by
  intro pins s σ H xs us Q I rs h
  obtain ⟨x, n, t, b, rfl, ty, e, q⟩ := h
  cases rs with
  | cons r rr =>
    cases rr with
    | cons r2 rr =>
      cases rr
      cases r2
      exact isinst_ok I r ty e fun tk => ⟨.bl b, H, I.tok _, rfl, q⟩

/-! ### a def as its callers take it -/
structure Df (P : Program) (w : World) (K : PySem.W.Frag) (mg : Str → Option Value) (base : Heap) (k : Nat) (x : Str) (ps : List Str) (sp : Sp) : Prop where
  ex : ∃ f fd, FnOk P w K mg base CX0 k f fd ps sp ∧ Binds K fd ps [] ∧ mg x = some (.ref f) ∧ PySem.W.keepIn K (.ref f) = true
structure Tx (K : PySem.W.Frag) (mg : Str → Option Value) (x : Str) (st : Stmt) (ps : List Str) : Prop where
  ex : ∃ f fd, Fun K x x st f fd ∧ Binds K fd ps [] ∧ mg x = some (.ref f)
theorem Tx.df {P : Program} {w : World} {K : PySem.W.Frag} {mg : Str → Option Value} {base : Heap} {x : Str} {st : Stmt} {N ps : List Str} {k : Nat} {sp : Sp} (T : Tx K mg x st ps) (S : FnScope N ps (defScope st))
    (len : ∀ vs H Q E, sp vs H Q E → vs.length = ps.length)
    (hbody : ∀ (f : Addr) (cdv : Value) (A : Around) (outer : List Env) (s : Shared) (H : Hp) (vs : List V) (Q : VK) (E : XK), Room k (A.deeper (envOfC x (defScope st) s.heap.objs.size f cdv)) → sp vs H Q E →
      ∃ t, PSs (cxOf CX0 P w K mg base N x (defScope st) f cdv A outer s H E).nox (defBody st) t ∧ t { nx := fun _ H' => Q .non H', rt := Q } (start N vs) H) : Df P w K mg base (k + 1) x ps sp := by
  obtain ⟨f, fd, F, b, hm⟩ := T.ex
  exact ⟨f, fd, F.ok S len fun cdv A outer s H vs Q E hr h => hbody f cdv A outer s H vs Q E hr h, b, hm, F.kp⟩
noncomputable def tCF (sp : Sp) (t : TA) : TE := fun σ H Q => t σ H fun vs H1 => sp vs H1 Q E0
theorem pe_df {j k : Nat} {x : Str} {ps : List Str} {sp : Sp} {p pos : Pos} {e : Expr} {es : List Expr} {t : TA} (D : Df X.prog X.w X.K X.mg X.base j x ps sp) (hr : Room k X.A) (ha : PA X (e :: es) t) (hg : Gl X x := by rfl) (hj : j ≤ k := by decide)
    (hdb : (x == ("__debug__" : Str)) = false := by decide) (he : starEach (e :: es) X.env = (false, eval e X.env) :: starEach es X.env := by rfl) (hpl : (backTo pos (starEach es X.env)).any (·.1) = false := by rfl) :
    PE X (.Call (.Name x p) (e :: es) [] pos) (tCF sp t) := by
  obtain ⟨f, fd, F, b, hm, kp⟩ := D.ex
  have h := pe_call (ds := []) (dvs := []) (E := E0) (p := p) (pos := pos) F (hr.mono hj) hg hm kp b .nil pass0 ha hdb he hpl
  have e1 : tCall sp [] E0 t = tCF sp t := by
    funext σ H Q
    unfold tCall tCF
    simp only [List.append_nil]
  rw [e1] at h
  exact h
/-- the builtins that no module hides -/
structure Bn (mg : Str → Option Value) : Prop where
  len : mg "len" = none
  range : mg "range" = none
  isinstance : mg "isinstance" = none
  int : mg "int" = none
  bool : mg "bool" = none
  list : mg "list" = none
  tuple : mg "tuple" = none
  str : mg "str" = none
  dict : mg "dict" = none
  sorted : mg "sorted" = none
  enumerate : mg "enumerate" = none
  min : mg "min" = none
  max : mg "max" = none
  set : mg "set" = none
theorem Same.upd {H : Hp} {a : Addr} {o : HO} (h : H a = none) : Same H (upd H a o) := fun b u e => by rw [upd_ne (ne_of_none e h)]; exact e
theorem Same.tup {K : PySem.W.Frag} {H H' : Hp} {a : Addr} {xs : List V} (e : Same H H') (h : SqT K H a xs) : SqT K H' a xs := by
  rcases h with (h | ⟨o, h⟩) | h
  · exact .inl (.inl (e _ _ h))
  · exact .inl (.inr ⟨o, e _ _ h⟩)
  · exact .inr h
end
end L2
namespace L2
open PySem PySem.Spec PyProof.Rows
theorem tx_mk {K : PySem.W.Frag} {h : Heap} {mg : Str → Option Value} {x : Str} {st : Stmt} {ps : List Str} {f : Addr} {oc : Value} {od an : Option Addr} {osl : Array (Option Value)} {kV doc pm cdv ct : Value} (X : K.In h) (G : h.Ns mainGlobals mg)
    (a : PySem.W.nsIn K mainGlobals x = some (some (.ref f)))
    (l : K.lookup f = some ⟨oc, od, .func (PySem.W.fnOf x x (defArgs st) (defBody st) (defScope st) .none kV doc pm an cdv ct), osl⟩)
    (c : PySem.W.codeIn K cdv x = true) (k : PySem.W.keepIn K (.ref f) = true)
    (hb : ∀ (kV doc pm : Value) (an : Option Addr) (cdv ct : Value) (us : List Value), us.length = ps.length → bindArgs (PySem.W.fnOf x x (defArgs st) (defBody st) (defScope st) .none kV doc pm an cdv ct) ⟨us, []⟩ = pure (ps.zip us)) : Tx K mg x st ps :=
  ⟨f, _, fun_mk l c k, (fun_mk l c k).binds hb, PySem.W.mg_of X G a⟩
theorem bn_mk {K : PySem.W.Frag} {h : Heap} {mg : Str → Option Value} (X : K.In h) (G : h.Ns mainGlobals mg)
    (z0 : PySem.W.nsIn K mainGlobals "len" = some none) (z1 : PySem.W.nsIn K mainGlobals "range" = some none) (z2 : PySem.W.nsIn K mainGlobals "isinstance" = some none)
    (z3 : PySem.W.nsIn K mainGlobals "int" = some none) (z4 : PySem.W.nsIn K mainGlobals "bool" = some none) (z5 : PySem.W.nsIn K mainGlobals "list" = some none) (z6 : PySem.W.nsIn K mainGlobals "tuple" = some none)
    (z7 : PySem.W.nsIn K mainGlobals "str" = some none) (z8 : PySem.W.nsIn K mainGlobals "dict" = some none) (z9 : PySem.W.nsIn K mainGlobals "sorted" = some none) (z10 : PySem.W.nsIn K mainGlobals "enumerate" = some none)
    (z11 : PySem.W.nsIn K mainGlobals "min" = some none) (z12 : PySem.W.nsIn K mainGlobals "max" = some none) (z13 : PySem.W.nsIn K mainGlobals "set" = some none) : Bn mg :=
  ⟨PySem.W.mg_none_of X G z0, PySem.W.mg_none_of X G z1, PySem.W.mg_none_of X G z2, PySem.W.mg_none_of X G z3, PySem.W.mg_none_of X G z4, PySem.W.mg_none_of X G z5, PySem.W.mg_none_of X G z6, PySem.W.mg_none_of X G z7, PySem.W.mg_none_of X G z8, PySem.W.mg_none_of X G z9, PySem.W.mg_none_of X G z10, PySem.W.mg_none_of X G z11, PySem.W.mg_none_of X G z12, PySem.W.mg_none_of X G z13⟩
/-- a block cut behind its first statement by a word R of one's own -/
noncomputable def tSeqE (t u : TS) : TS := fun D σ H => ∃ R : St → Hp → Prop, t { D with nx := R } σ H ∧ ∀ σ' H', R σ' H' → u D σ' H'
theorem pss_consE {X : Cx} {st : Stmt} {rest : List Stmt} {t u : TS} (h1 : PS X st t) (h2 : PSs X rest u) : PSs X (st :: rest) (tSeqE t u) := by
  intro pins s σ H D I h
  obtain ⟨R, h, hR⟩ := h
  refine wpAny_execs_cons (thn (h1 pins s σ H { D with nx := R } I h) fun f s1 q => ?_)
  cases f with
  | next =>
    obtain ⟨σ', H', I', q⟩ := q
    exact h2 pins s1 σ' H' D I' (hR σ' H' q)
  | ret v => exact q
  | brk => exact q
  | cont => exact q
theorem len_ok {n : Nat} (h : Nat.ble n 1000 = true) : n ≤ sizeLine := Nat.le_trans (Nat.le_of_ble_eq_true h) (by decide)
end L2
namespace LM
end LM
namespace LM
end LM
namespace LM
end LM
namespace My
open PySem L2 LM PyProof.Rows
noncomputable def isI : V → Bool
  | .int _ => true
  | _ => false
noncomputable def isB : V → Bool
  | .bl _ => true
  | _ => false
theorem kit_int (K : PySem.W.Frag) {H : Hp} {x : V} {n : String} (ty : TyOf K H x (.type n)) : PySem.W.kitOne K (.type n) (.type "int") = some (isI x || isB x) := by
  cases ty <;> kernel_rfl
theorem kit_bool (K : PySem.W.Frag) {H : Hp} {x : V} {n : String} (ty : TyOf K H x (.type n)) : PySem.W.kitOne K (.type n) (.type "bool") = some (isB x) := by
  cases ty <;> kernel_rfl
theorem kit_tt (K : PySem.W.Frag) : PySem.W.kitOne K (.type "tuple") (.type "tuple") = some true := by kernel_rfl
end My
namespace My
open PySem L2 LM PyProof.Rows
end My
namespace LM
open PyProof.Rows
/-- the lowest cell -/
noncomputable def lowN (c : Nat) : Nat := ((List.range 64).find? c.testBit).getD 64
end LM
namespace L2
end L2
namespace My
open PySem L2 LM PyProof.Rows
end My
namespace My
open PySem L2 LM PyProof.Rows
end My
namespace L2
open PySem PySem.Spec PyProof.Rows
section
variable {X : Cx} {K : PySem.W.Frag}
theorem ix_tupK (h : X.K = K) : IxR X (rIxT K) := h ▸ ix_tup
theorem op_neDK (h : X.K = K) (hu : X.A.units + 64 < cLine) : OpR X (compareOp .NotEq) (rNeD K) := h ▸ op_neD hu
end
theorem gint_mk {K : PySem.W.Frag} {h : Heap} {mg : Str → Option Value} {x : Str} {i : Int} {t : Tok} (X : K.In h) (G : h.Ns mainGlobals mg) (a : PySem.W.nsIn K mainGlobals x = some (some (.int i t))) : ∃ t, mg x = some (.int i t) := ⟨t, PySem.W.mg_of X G a⟩
/-- over a list that stays, whatever is wanted at the end -/
theorem compL {K : PySem.W.Frag} {a : Addr} {xs : List V} {g : TG} {tt : TT} {te : TE} {σ0 : St} {Q : Hp → Prop} {D : Addr} {H : Hp} (Pv : Nat → List V → Hp → Prop) (h0 : Pv 0 [] H) (hl : ∀ i acc H, i ≤ xs.length → Pv i acc H → SqL K H a xs)
    (hs : ∀ i x acc H2, xs[i]? = some x → Pv i acc H2 → g x σ0 H2 fun σ2 H4 => tt σ2 H4 fun b H5 =>
      if b = true then te σ2 H5 fun y H6 => H6 D = some (.lst acc) ∧ acc.length < sizeLine ∧ Pv (i + 1) (acc ++ [y]) (upd H6 D (.lst (acc ++ [y]))) else Pv (i + 1) acc H5)
    (hd : ∀ acc H2, Pv xs.length acc H2 → Q H2) :
    ∃ W : Nat → Nat → List V → Hp → Prop, (∃ m, W 0 m [] H) ∧ ∀ i m acc H2, W i m acc H2 →
      ((Itl K a).stop i H2 ∧ Q H2) ∨ ((Itl K a).go i H2 ∧ ∃ N : List V → Hp → Prop, (∀ acc' H', N acc' H' → ∃ m', m' < m ∧ W (i + 1) m' acc' H') ∧ ∀ x H3, (Itl K a).yld i H2 x H3 → g x σ0 H3 fun σ2 H4 => tt σ2 H4 fun b H5 =>
        if b = true then te σ2 H5 fun y H6 => H6 D = some (.lst acc) ∧ acc.length < sizeLine ∧ N (acc ++ [y]) (upd H6 D (.lst (acc ++ [y]))) else N acc H5) :=
  comp_list (Q := fun _ H => Q H) Pv h0 hl hs hd
end L2
namespace L2
open PySem PySem.Spec PyProof.Rows

/-! ### lists of pairs as tables -/
section
variable {κ : Type} [DecidableEq κ]
noncomputable def valV (kvs : List (κ × V)) (k : κ) : Option V := (kvs.find? fun kv => decide (kv.1 = k)).map (·.2)
/-- in its place, or at the end -/
noncomputable def putK (kvs : List (κ × V)) (k : κ) (v : V) : List (κ × V) :=
  if (kvs.any fun kv => decide (kv.1 = k)) = true then kvs.map (fun kv => if kv.1 = k then (kv.1, v) else kv) else kvs ++ [(k, v)]
theorem valV_pos {p : κ × V} {r : List (κ × V)} {k : κ} (e : p.1 = k) : valV (p :: r) k = some p.2 := by simp [valV, List.find?_cons, e]
theorem valV_neg {p : κ × V} {r : List (κ × V)} {k : κ} (e : ¬ p.1 = k) : valV (p :: r) k = valV r k := by simp [valV, List.find?_cons, e]
theorem valV_any (k : κ) : ∀ kvs : List (κ × V), (kvs.any fun kv => decide (kv.1 = k)) = (valV kvs k).isSome
  | [] => rfl
  | p :: r => by
    rw [List.any_cons]
    by_cases e : p.1 = k
    · simp only [valV_pos e, decide_eq_true e, Bool.true_or, Option.isSome_some]
    · rw [valV_neg e, decide_eq_false e, Bool.false_or]; exact valV_any k r
theorem length_putK (kvs : List (κ × V)) (k : κ) (v : V) : (putK kvs k v).length ≤ kvs.length + 1 := by
  unfold putK
  split
  · rw [List.length_map]; omega
  · rw [List.length_append, List.length_cons, List.length_nil]; omega
theorem RelO.isSome_eq {o : Option V} {u : Option Value} (r : RelO o u) : o.isSome = u.isSome := by
  cases o with
  | none => cases u with
    | none => rfl
    | some _ => exact (show False from r).elim
  | some _ => cases u with
    | none => exact (show False from r).elim
    | some _ => rfl
theorem RelO.getD {o : Option V} {u : Option Value} {d : V} {d' : Value} (r : RelO o u) (rd : RelV d d') : RelV (o.getD d) (u.getD d') := by
  cases o with
  | none => cases u with
    | none => exact rd
    | some _ => exact (show False from r).elim
  | some _ => cases u with
    | none => exact (show False from r).elim
    | some _ => exact r

/-- raw tables of the same keys -/
theorem KV.val {kvs : List (κ × V)} {vs : List (κ × Value)} (r : KV kvs vs) (k : κ) : RelO (valV kvs k) (valueAt vs k) := by
  unfold KV at r
  induction r with
  | nil => exact True.intro
  | @cons p q ps qs h t ih =>
    obtain ⟨h1, h2⟩ := h
    by_cases e : p.1 = k
    · have e' : q.1 = k := h1.symm.trans e
      have b : valueAt (q :: qs) k = some q.2 := by simp [valueAt, List.find?_cons, e']
      rw [valV_pos e, b]; exact h2
    · have e' : ¬ q.1 = k := fun z => e (h1.trans z)
      have b : valueAt (q :: qs) k = valueAt qs k := by simp [valueAt, List.find?_cons, e']
      rw [valV_neg e, b]; exact ih
theorem KV.any {kvs : List (κ × V)} {vs : List (κ × Value)} (r : KV kvs vs) (k : κ) : (kvs.any fun kv => decide (kv.1 = k)) = vs.any fun kv => decide (kv.1 = k) := by
  unfold KV at r
  induction r with
  | nil => rfl
  | cons h t ih => rw [List.any_cons, List.any_cons, ih, h.1]
theorem KV.repl {kvs : List (κ × V)} {vs : List (κ × Value)} (r : KV kvs vs) (k : κ) {y : V} {u : Value} (ry : RelV y u) :
    KV (kvs.map fun kv => if kv.1 = k then (kv.1, y) else kv) (vs.map fun kv => if kv.1 = k then (kv.1, u) else kv) := by
  unfold KV at r ⊢
  induction r with
  | nil => exact .nil
  | @cons p q ps qs h t ih =>
    rw [List.map_cons, List.map_cons]
    refine .cons ?_ ih
    obtain ⟨h1, h2⟩ := h
    by_cases e : p.1 = k
    · rw [if_pos e, if_pos (h1.symm.trans e)]; exact ⟨h1, ry⟩
    · rw [if_neg e, if_neg (fun z => e (h1.trans z))]; exact ⟨h1, h2⟩
theorem KV.put {kvs : List (κ × V)} {vs : List (κ × Value)} (r : KV kvs vs) (k : κ) {y : V} {u : Value} (ry : RelV y u) : KV (putK kvs k y) (stored vs k u) := by
  unfold putK stored
  rw [r.any k]
  by_cases e : (vs.any fun kv => decide (kv.1 = k)) = true
  · rw [if_pos e, if_pos e]; exact r.repl k ry
  · rw [if_neg e, if_neg e]; exact Paired.snoc r ⟨rfl, ry⟩
theorem KV.length {kvs : List (κ × V)} {vs : List (κ × Value)} (r : KV kvs vs) : kvs.length = vs.length := Paired.length r
end


/-! ### a tracked dict, its keys ints and texts or tuples of these -/
theorem kV_is {P : Program} {w : World} {k : Key} {u : Value} (r : RelV (kV k) u) : (mixKind P w).is k u = true := by
  cases k with
  | inl i => obtain ⟨t, e⟩ := (show ∃ t, u = Value.int i t from r); subst e; exact mixKind_int P w i t
  | inr x => obtain ⟨t, e⟩ := (show ∃ t, u = Value.str x t from r); subst e; exact mixKind_str P w x t
theorem items_are {P : Program} {w : World} : ∀ {ks : List Key} {us : List Value}, Vals (ks.map kV) us → ItemsAre (mixKind P w) ks us
  | [], _, r => by rw [List.map_nil] at r; cases r; exact .nil
  | k :: ks, _, r => by
    rw [List.map_cons] at r
    cases r with
    | cons h t => exact .cons (kV_is h) (items_are t)

/-- raw entries of a dict with tuple keys -/
noncomputable abbrev KT (H : Hp) : List (List Key × V) → List (List Key × Addr × Value) → Prop := Paired fun p q => p.1 = q.1 ∧ H q.2.1 = some (.tup (p.1.map kV)) ∧ RelV p.2 q.2.2
theorem KT.val {H : Hp} {kvs : List (List Key × V)} {xs : List (List Key × Addr × Value)} (r : KT H kvs xs) (k : List Key) : RelO (valV kvs k) ((atKey xs k).map (·.2)) := by
  induction r with
  | nil => exact True.intro
  | @cons p q ps qs h t ih =>
    obtain ⟨h1, _, h2⟩ := h
    by_cases e : p.1 = k
    · have e' : q.1 = k := h1.symm.trans e
      have b : atKey (q :: qs) k = some q.2 := by simp [atKey, List.find?_cons, e']
      rw [valV_pos e, b]; exact h2
    · have e' : ¬ q.1 = k := fun z => e (h1.trans z)
      have b : atKey (q :: qs) k = atKey qs k := by simp [atKey, List.find?_cons, e']
      rw [valV_neg e, b]; exact ih
theorem KT.repl {H : Hp} {kvs : List (List Key × V)} {xs : List (List Key × Addr × Value)} (r : KT H kvs xs) (k : List Key) {y : V} {u : Value} (ry : RelV y u) :
    KT H (kvs.map fun kv => if kv.1 = k then (kv.1, y) else kv) (xs.map (putAt k u)) := by
  induction r with
  | nil => exact .nil
  | @cons p q ps qs h t ih =>
    rw [List.map_cons, List.map_cons]
    refine .cons ?_ ih
    obtain ⟨h1, h2, h3⟩ := h
    unfold putAt
    by_cases e : p.1 = k
    · rw [if_pos e, if_pos (h1.symm.trans e)]; exact ⟨h1, h2, ry⟩
    · rw [if_neg e, if_neg (fun z => e (h1.trans z))]; exact ⟨h1, h2, h3⟩
theorem KT.put {H : Hp} {kvs : List (List Key × V)} {xs : List (List Key × Addr × Value)} (r : KT H kvs xs) (k : List Key) {b : Addr} {y : V} {u : Value} (hb : H b = some (.tup (k.map kV))) (ry : RelV y u) :
    KT H (putK kvs k y) (storedH xs k b u) := by
  have e : (kvs.any fun kv => decide (kv.1 = k)) = (atKey xs k).isSome := by
    rw [valV_any, (r.val k).isSome_eq, Option.isSome_map]
  unfold putK storedH
  rw [e]
  by_cases q : (atKey xs k).isSome = true
  · rw [if_pos q, if_pos q]; exact r.repl k ry
  · rw [if_neg q, if_neg q]; exact Paired.snoc r ⟨rfl, hb, ry⟩
theorem KT.keeps {H H' : Hp} {kvs : List (List Key × V)} {xs : List (List Key × Addr × Value)} (r : KT H kvs xs) (ht : ∀ b ys, H b = some (.tup ys) → H' b = some (.tup ys)) : KT H' kvs xs :=
  Paired.mapP r fun _ _ z => ⟨z.1, ht _ _ z.2.1, z.2.2⟩

section
variable {P : Program} {w : World} {H : Hp} {h : Heap} {a : Addr}
theorem rd_of {u : HO} (ok : HOk P w H h) (e : Rd H a u) : ObjOk P w H h a u := e.ok ok
theorem dk_rd {kvs : List (Key × V)} (ok : HOk P w H h) (e : Rd H a (.dK kvs)) : kvs.length ≤ sizeLine ∧ (a == sysModules) = false ∧ ∃ vs, KV kvs vs ∧ h.DictOf (mixKind P w) a vs :=
  show ObjOk P w H h a (.dK kvs) from rd_of ok e
theorem dk_of {kvs : List (Key × V)} (ok : HOk P w H h) (e : H a = some (.dK kvs)) : kvs.length ≤ sizeLine ∧ (a == sysModules) = false ∧ ∃ vs, KV kvs vs ∧ h.DictOf (mixKind P w) a vs := dk_rd ok (.inl e)
/-- a tracked tuple of ints and texts is a key -/
theorem key_of {ks : List Key} (ok : HOk P w H h) (e : H a = some (.tup (ks.map kV))) : (tupleKind (mixKind P w)).is h ks a := by
  obtain ⟨_, its, r, o, h1, h2, n, h3⟩ := (show ObjOk P w H h a (.tup (ks.map kV)) from ok a _ e)
  exact ⟨o, its.toArray, n, h1, h2, h3, by simpa using items_are r⟩
theorem dt_rd {kvs : List (List Key × V)} (ok : HOk P w H h) (e : Rd H a (.dT kvs)) : kvs.length ≤ sizeLine ∧ (a == sysModules) = false ∧
    ∃ xs, KT H kvs xs ∧ h.DictOfH (tupleKind (mixKind P w)) a xs := by
  obtain ⟨z, y, xs, r, o, es, ep, h1, h2, h3, h4, h5⟩ := (show ObjOk P w H h a (.dT kvs) from rd_of ok e)
  refine ⟨z, y, xs, r, o, es, ep, h1, h2, h3, h4, fun x hx => ?_, h5⟩
  have all : ∀ {l : List (List Key × V)} {m : List (List Key × Addr × Value)}, KT H l m → ∀ x ∈ m, (tupleKind (mixKind P w)).is h x.1 x.2.1 := by
    intro l m q
    induction q with
    | nil => intro x hx; exact nomatch hx
    | @cons p q ps qs hq t ih =>
      intro x hx
      rcases List.mem_cons.mp hx with e | hx
      · subst e
        exact key_of ok (by rw [← hq.1]; exact hq.2.1)
      · exact ih x hx
  exact all r x hx
theorem dt_of {kvs : List (List Key × V)} (ok : HOk P w H h) (e : H a = some (.dT kvs)) : kvs.length ≤ sizeLine ∧ (a == sysModules) = false ∧
    ∃ xs, KT H kvs xs ∧ h.DictOfH (tupleKind (mixKind P w)) a xs := dt_rd ok (.inl e)
end

/-- what the dict at a holds at the key y -/
noncomputable def DGet (H : Hp) (a : Addr) (y : V) (r : Option V) : Prop :=
  (∃ kvs k, Rd H a (.dK kvs) ∧ y = kV k ∧ r = valV kvs k) ∨ ∃ kvs k b, Rd H a (.dT kvs) ∧ y = .ref b ∧ H b = some (.tup (k.map kV)) ∧ r = valV kvs k
/-- the heap behind a[y] = v -/
noncomputable def DPut (H : Hp) (a : Addr) (y v : V) (H' : Hp) : Prop :=
  (∃ kvs k, H a = some (.dK kvs) ∧ y = kV k ∧ kvs.length < sizeLine ∧ H' = upd H a (.dK (putK kvs k v))) ∨
  ∃ kvs k b, H a = some (.dT kvs) ∧ y = .ref b ∧ H b = some (.tup (k.map kV)) ∧ kvs.length < sizeLine ∧ H' = upd H a (.dT (putK kvs k v))
theorem DGet.k {H : Hp} {a : Addr} {kvs : List (Key × V)} {k : Key} (e : H a = some (.dK kvs)) : DGet H a (kV k) (valV kvs k) := .inl ⟨kvs, k, .inl e, rfl, rfl⟩
theorem DPut.k {H : Hp} {a : Addr} {kvs : List (Key × V)} {k : Key} {v : V} (e : H a = some (.dK kvs)) (hl : kvs.length < sizeLine) : DPut H a (kV k) v (upd H a (.dK (putK kvs k v))) := .inl ⟨kvs, k, e, rfl, hl, rfl⟩
section
variable {X : Cx} {pins : List (Addr × Obj)} {σ : St} {H : Hp} {s : Shared} {a : Addr} {y v : V} {u r : Value} {o : Option V} {A : Around} {E : Value → Shared → Prop}

theorem Inv.big (I : Inv X pins σ H s) : sysModules < s.heap.objs.size := by
  have h : mainGlobals < s.heap.objs.size := (I.mod.glob.keeps I.bk).lt
  exact Nat.lt_trans (by decide) h

/-- d[y], there -/
theorem d_getItem {Q : Value → Shared → Prop} (hu : A.units + 1 < cLine) (I : Inv X pins σ H s) (g : DGet H a y (some v)) (ry : RelV y u) (h : ∀ w' s', Inv X pins σ H s' → RelV v w' → Q w' s') :
    wpAny (model X.prog X.w) A (getItem (.ref a) u) Q E s := by
  rcases g with ⟨kvs, k, e, ey, l⟩ | ⟨kvs, k, b, e, ey, eb, l⟩
  · subst ey
    obtain ⟨z, hd, vs, rel, dd⟩ := dk_rd I.hok e
    obtain ⟨w', hw, rw'⟩ := RelO.some_of (v := v) (o := valueAt vs k) (by rw [l]; exact rel.val k)
    exact wpAny_getItem_of (kV_is ry) dd.mapOf hw (h w' _ (I.tok _) rw')
  · subst ey
    cases (show u = Value.ref b from ry)
    obtain ⟨z, hd, xs, rel, dd⟩ := dt_rd I.hok e
    obtain ⟨w', hw, rw'⟩ := RelO.some_of (v := v) (o := (atKey xs k).map (·.2)) (by rw [l]; exact rel.val k)
    obtain ⟨p, hp, hp2⟩ := Option.map_eq_some_iff.mp hw
    refine wpAny_getItem_heap (tupleKind_room_in1 hu) (key_of I.hok eb) dd hp ?_
    rw [hp2]
    exact h w' _ (I.tok _) rw'
/-- a dict's object is replaced -/
theorem d_write {h' : Heap} {t' : Nat} {ob : HO} (I : Inv X pins σ H s) (mu : Mut (H a)) (hs : Heap.SameBut a s.heap h') (he : ∃ q, h'.get? a = some q) (new : ObjOk X.prog X.w (upd H a ob) h' a ob) :
    Inv X pins σ (upd H a ob) { s with heap := h', toks := t' } :=
  I.write (x := a) (e := a) mu (.inl rfl) (fun b q hb z => (hs.2 b hb).trans z) he new
theorem dk_new {P : Program} {w : World} {H' : Hp} {h' : Heap} {kvs : List (Key × V)} {vs : List (Key × Value)} (z : kvs.length ≤ sizeLine) (hd : (a == sysModules) = false) (rel : KV kvs vs) (dd : h'.DictOf (mixKind P w) a vs) :
    ObjOk P w H' h' a (.dK kvs) := ⟨z, hd, vs, rel, dd⟩
/-- d[y] = v -/
theorem d_setItem {H' : Hp} {Q : Unit → Shared → Prop} (hu : A.units + 1 < cLine) (I : Inv X pins σ H s) (g : DPut H a y v H') (ry : RelV y u) (rv : RelV v r) (h : ∀ s', Inv X pins σ H' s' → Q () s') :
    wpAny (model X.prog X.w) A (setItem (.ref a) u r) Q E s := by
  rcases g with ⟨kvs, k, e, ey, l, eH⟩ | ⟨kvs, k, b, e, ey, eb, l, eH⟩
  · subst ey eH
    obtain ⟨z, hd, vs, rel, dd⟩ := dk_of I.hok e
    have hz : vs.length ≤ sizeLine := by rw [← rel.length]; exact z
    have hl : (putK kvs k v).length ≤ sizeLine := by have := length_putK kvs k v; omega
    refine wpAny_setItem_pairs (hsz := hz) (kV_is ry) dd fun h' dd' hs => h _ ?_
    have he : ∃ q, h'.get? a = some q := let ⟨q, _, _, hq, _⟩ := dd'; ⟨q, hq⟩
    exact d_write I (by rw [e]; exact True.intro) hs he (dk_new hl hd (rel.put k rv) dd')
  · subst ey eH
    cases (show u = Value.ref b from ry)
    obtain ⟨z, hd, xs, rel, dd⟩ := dt_of I.hok e
    have hz : xs.length ≤ sizeLine := by rw [← Paired.length rel]; exact z
    have hl : (putK kvs k v).length ≤ sizeLine := by have := length_putK kvs k v; omega
    refine wpAny_setItem_heap (hsz := hz) (tupleKind_room_in1 hu) (key_of I.hok eb) dd fun h' dd' hs => h _ ?_
    obtain ⟨q, es, ep, hq, h2, h3, h4, _, h5⟩ := dd'
    refine d_write I (by rw [e]; exact True.intro) hs ⟨q, hq⟩ ⟨hl, hd, _, (rel.put k eb rv).keeps fun c ys ec => ?_, q, es, ep, hq, h2, h3, h4, h5⟩
    rw [upd_ne (ne_of ec e (fun z => nomatch z))]
    exact ec
end

section
variable {X : Cx} {pins : List (Addr × Obj)} {σ : St} {H : Hp} {s : Shared} {a : Addr} {kvs : List (Key × V)} {k : Key} {u : Value} {A : Around} {E : Value → Shared → Prop}
end


/-! ### readings and rules -/
/-- the element of a subscription, not a slice -/
noncomputable def NoSl (i : Expr) : Prop := ∀ ov iv, subscripted i false ov iv = operate [ov, iv] (getItem ov iv)
theorem subD_of {prog : Program} {w : World} {A : Around} {E : Value → Shared → Prop} {s : Shared} {env : Env} {value slice : Expr} {pos : Pos} {T id : String} {Q : Value → Shared → Prop}
    (hl : typeLookup (.type T) "__getitem__" = pure (some (.builtin id))) (hs : NoSl slice)
    (h : wpAny (model prog w) A (eval value env) (fun o s₁ => wpAny (model prog w) A (eval slice env) (fun i s₂ => s₂.TypeIs o T ∧ wpAny (model prog w) A (getItem o i) Q E s₂) E s₁) E s) :
    wpAny (model prog w) A (eval (.Subscript value slice pos) env) Q E s := by
  refine Subscript_ (wpAny_mono h (fun o s₁ h₁ => wpAny_mono h₁ (fun i s₂ h₂ => ?_) fun _ _ x => x) fun _ _ x => x)
  obtain ⟨hT, h₂⟩ := h₂
  unfold subscriptTail
  refine wpAny_bind ?_
  rw [getitemInPython_of_ne hT.not_modules]
  refine wpAny_bind (wpAny_specialOf hT hl ?_)
  have fin : wpAny (model prog w) A (subscripted slice false o i) (fun r s₃ => wpAny (model prog w) A (letTemporaryGo value o r >>= fun _ => pure r) Q E s₃) E s₂ := by
    rw [hs o i]
    exact wpAny_operating (wpAny_mono h₂ (fun r s₃ h₃ => wpAny_bind (wpAny_letTemporaryGo (wpAny_pure h₃))) fun _ _ x => x)
  first
    | exact wpAny_pure (wpAny_bind fin)
    | exact wpAny_bind (wpAny_pure (wpAny_bind fin))
    | exact wpAny_bind fin

theorem dict_typeIs {X : Cx} {pins : List (Addr × Obj)} {σ : St} {H : Hp} {s : Shared} {a : Addr} {y : V} {o : Option V} (I : Inv X pins σ H s) (g : DGet H a y o) : s.TypeIs (.ref a) "dict" := by
  rcases g with ⟨kvs, k, e, _, _⟩ | ⟨kvs, k, b, e, _, _, _⟩
  · obtain ⟨_, _, vs, _, dd⟩ := dk_rd I.hok e
    exact dd.typeIs
  · obtain ⟨_, _, xs, _, dd⟩ := dt_rd I.hok e
    exact dd.typeIs
/-- d[y] -/
noncomputable def tDGet (td ty : TE) : TE := fun σ H Q => td σ H fun x H1 => ty σ H1 fun y H2 => ∃ a v, x = .ref a ∧ DGet H2 a y (some v) ∧ Q v H2
/-- d[y] = v -/
noncomputable def sDPut (td ty tv : TE) : TS := fun D σ H => tv σ H fun v H1 => td σ H1 fun x H2 => ty σ H2 fun y H3 => ∃ a H4, x = .ref a ∧ DPut H3 a y v H4 ∧ D.nx σ H4
section
variable {X : Cx} {o i e value : Expr} {pos pos' tpos : Pos} {td ty tv : TE}
theorem pe_dget (hu : X.A.units + 1 < cLine) (ho : PE X o td) (hi : PE X i ty) (hs : NoSl i) : PE X (.Subscript o i pos) (tDGet td ty) := by
  intro pins s σ H Q I h
  refine subD_of PySem.F.slot_dict_getitem.lookup hs (thn (ho pins s σ H _ I h) fun u s1 ⟨x, H1, I1, rx, q1⟩ => thn (hi pins s1 σ H1 _ I1 q1) fun iv s2 ⟨y, H2, I2, ry, a, v, ex, g, q2⟩ => ?_)
  subst ex
  obtain rfl : u = Value.ref a := rx
  exact ⟨dict_typeIs I2 g, d_getItem hu I2 g ry fun w' s3 I3 rw' => ⟨v, H2, I3, rw', q2⟩⟩
theorem ps_dput (hu : X.A.units + 1 < cLine) (ho : PE X o td) (hi : PE X i ty) (hv : PE X value tv) (hs : swapsWith value (some (.Subscript o i pos')) pos.line X.env = pure false) :
    PS X (.Assign [.Subscript o i pos'] value pos) (sDPut td ty tv) := by
  intro pins s σ H D I h
  refine wpAny_Assign_Subscript (thn (hv pins s σ H _ I h) fun r s1 ⟨v, H1, I1, rv, q1⟩ => thn (ho pins s1 σ H1 _ I1 q1) fun u s2 ⟨x, H2, I2, rx, q2⟩ => thn (hi pins s2 σ H2 _ I2 q2) fun iv s3 ⟨y, H3, I3, ry, a, H4, ex, g, q3⟩ => ?_) hs
  subst ex
  obtain rfl : u = Value.ref a := rx
  exact d_setItem hu I3 g ry rv fun s4 I4 => ⟨σ, H4, I4, q3⟩
end


/-! ### displays -/
theorem dk_empty {P : Program} {w : World} {H : Hp} (h : Heap) (hb : sysModules < h.objs.size) : ObjOk P w H (h.push { cls := .type "dict", data := .dict #[] }) h.objs.size (.dK []) :=
  ⟨Nat.zero_le _, beq_eq_false_iff_ne.mpr (Ne.symm (Nat.ne_of_lt hb)), [], .nil, Heap.DictOf.new h⟩
/-- {}, to be a dict of the kind that is wanted -/
noncomputable def tDNewK : TE := fun _ H Q => ∀ p, H p = none → Q (.ref p) (upd H p (.dK []))
section
variable {X : Cx} {pos : Pos}
theorem pe_dnewK : PE X (.Dict [] [] pos) tDNewK := fun pins s σ H Q I h =>
  wpAny_Dict_empty ⟨.ref s.heap.objs.size, _, I.laid (a := s.heap.objs.size) (o := .dK []) (t' := s.toks) (fun _ _ q => Heap.get?_push_of_some _ q) (Nat.le_refl _) (dk_empty s.heap I.big), rfl, h _ (I.hok.fresh (Nat.le_refl _))⟩
end

noncomputable def mergeK (kvs more : List (Key × V)) : List (Key × V) := more.foldl (fun acc kv => putK acc kv.1 kv.2) kvs
theorem KV.merge : ∀ {more : List (Key × V)} {rs : List (Key × Value)} {kvs : List (Key × V)} {vs : List (Key × Value)}, KV more rs → KV kvs vs → KV (mergeK kvs more) (merged vs rs) := by
  intro more rs kvs vs r
  unfold KV at r
  induction r generalizing kvs vs with
  | nil => intro q; exact q
  | @cons p q ps qs h t ih =>
    intro r0
    have e : KV (putK kvs p.1 p.2) (stored vs q.1 q.2) := by
      have := r0.put p.1 h.2
      rw [← h.1]; exact this
    exact ih e
theorem length_mergeK : ∀ (more kvs : List (Key × V)), (mergeK kvs more).length ≤ kvs.length + more.length
  | [], kvs => by show kvs.length ≤ kvs.length + 0; omega
  | p :: r, kvs => by
    have h1 := length_mergeK r (putK kvs p.1 p.2)
    have h2 := length_putK kvs p.1 p.2
    show (mergeK (putK kvs p.1 p.2) r).length ≤ _
    rw [List.length_cons]; omega
/-! ### methods -/
structure M2 (X : Cx) (o : Expr) (m : Str) (apos : Pos) (e f : Expr) (cpos : Pos) : Prop where
  base : attributeBase o m X.env (eval o X.env) = eval o X.env
  few : ((backTo cpos (starEach [e, f] X.env)).all (fun x => !x.1) && (backToKw cpos (keywordEach [] X.env)).all (fun x => x.1.isSome)
    && decide (([e, f] : List Expr).length + ([] : List Keyword).length + (if ([] : List Keyword).isEmpty then 0 else 1) < 30)) = true
  line : (apos.endLine == cpos.line) = true
  trees : backTo cpos (starEach [e, f] X.env) = [(false, eval e X.env), (false, eval f X.env)]

/-- a is a dict, whatever its keys -/
noncomputable def IsDD (H : Hp) (a : Addr) : Prop := (∃ kvs, Rd H a (.dK kvs)) ∨ ∃ kvs, Rd H a (.dT kvs)
theorem isD_at {X : Cx} {pins : List (Addr × Obj)} {σ : St} {H : Hp} {s : Shared} {a : Addr} (I : Inv X pins σ H s) (d : IsDD H a) :
    s.TypeIs (.ref a) "dict" ∧ (∀ b, Value.ref a = .ref b → ∃ ob, s.heap.get? b = some ob ∧ ob.dict = none) ∧ (a == sysModules) = false := by
  rcases d with ⟨kvs, e⟩ | ⟨kvs, e⟩
  · obtain ⟨_, hd, vs, _, dd⟩ := dk_rd I.hok e
    refine ⟨dd.typeIs, fun b q => ?_, hd⟩
    cases q
    obtain ⟨ob, _, _, h1, h2, _⟩ := dd
    exact ⟨ob, h1, h2.2.1⟩
  · obtain ⟨_, hd, xs, _, dd⟩ := dt_rd I.hok e
    refine ⟨dd.typeIs, fun b q => ?_, hd⟩
    cases q
    obtain ⟨ob, _, _, h1, h2, _⟩ := dd
    exact ⟨ob, h1, h2.2.1⟩

section
variable {X : Cx} {pins : List (Addr × Obj)} {σ : St} {H : Hp} {s : Shared} {a : Addr} {y d : V} {u r : Value} {o : Option V} {A : Around} {E : Value → Shared → Prop}
/-- d.get(y, x) -/
theorem d_get2 {Q : Value → Shared → Prop} (hu : A.units + 1 < cLine) (I : Inv X pins σ H s) (g : DGet H a y o) (ry : RelV y u) (rd : RelV d r) (h : ∀ w' s', Inv X pins σ H s' → RelV (o.getD d) w' → Q w' s') :
    wpAny (model X.prog X.w) A (call (.builtin "dict.get") [.ref a, u, r]) Q E s := by
  rcases g with ⟨kvs, k, e, ey, l⟩ | ⟨kvs, k, b, e, ey, eb, l⟩
  · subst ey
    obtain ⟨z, hd, vs, rel, dd⟩ := dk_rd I.hok e
    refine call_meetsIn PySem.F.slot_dict_get dd.typeIs PySem.F.entry_dict_get (PySem.F.args_dict_get_3 _ _ _) (meets_dict_get_default (mixKind X.prog X.w) a (kV_is ry) hd r) ⟨_, dd.mapOf, h _ _ (I.tok _) ?_⟩
    rw [l]
    exact (rel.val k).getD rd
  · subst ey
    cases (show u = Value.ref b from ry)
    obtain ⟨z, hd, xs, rel, dd⟩ := dt_rd I.hok e
    refine call_meetsIn PySem.F.slot_dict_get dd.typeIs PySem.F.entry_dict_get (PySem.F.args_dict_get_3 _ _ _) (meetsH_dict_get_default (tupleKind (mixKind X.prog X.w)) a b hd r) ⟨tupleKind_room_in1 hu, k, xs, key_of I.hok eb, dd, h _ _ (I.tok _) ?_⟩
    rw [l]
    exact (rel.val k).getD rd
end

noncomputable def tDGet2 (td ty tx : TE) : TE := fun σ H Q => td σ H fun x H1 => ∃ a, x = .ref a ∧ IsDD H1 a ∧ ty σ H1 fun y H2 => tx σ H2 fun z H3 => ∃ o, DGet H3 a y o ∧ Q (o.getD z) H3
section
variable {X : Cx} {o e f : Expr} {apos cpos : Pos} {td ty tx : TE}
theorem pe_dget2 (hu : X.A.units + 1 < cLine) (ho : PE X o td) (he : PE X e ty) (hf : PE X f tx) (m : M2 X o "get" apos e f cpos) : PE X (.Call (.Attribute o "get" apos) [e, f] [] cpos) (tDGet2 td ty tx) := by
  intro pins s σ H Q I h
  refine wpAny_Call_method m.base m.few m.line PySem.F.plainAttrs_dict PySem.F.slot_dict_get PySem.F.type_dict_get (thn (ho pins s σ H _ I h) fun u s1 ⟨x, H1, I1, rx, a, ex, d, q1⟩ => ?_)
  subst ex
  obtain rfl : u = Value.ref a := rx
  obtain ⟨t1, t2, _⟩ := isD_at I1 d
  refine ⟨t1, t2, ?_⟩
  rw [m.trees]
  refine Calls.callWith_builtin rfl (Calls.evalArgs_plain (Calls.spliced_cons (thn (he pins s1 σ H1 _ I1 q1) fun iv s2 ⟨y, H2, I2, ry, q2⟩ =>
    Calls.spliced_cons (thn (hf pins s2 σ H2 _ I2 q2) fun fv s3 ⟨z, H3, I3, rz, ov, g, q3⟩ => Calls.spliced_nil ?_))))
  exact d_get2 hu I3 g ry rz fun w' s4 I4 rw' => ⟨_, H3, I4, rw', q3⟩
end

/-! ### dict(d): a copy -/
section
variable {X : Cx} {pins : List (Addr × Obj)} {σ : St} {H : Hp} {s : Shared} {a : Addr} {kvs : List (Key × V)} {A : Around} {E : Value → Shared → Prop}
end


section
variable {X : Cx} {pins : List (Addr × Obj)} {σ : St} {H : Hp} {s : Shared} {a : Addr} {y : V} {u : Value} {A : Around} {E : Value → Shared → Prop}
end
end L2
namespace L2
open PySem PySem.Spec PyProof.Rows
section
variable {X : Cx}
end
end L2
namespace My
open PySem L2 LM PyProof.Rows
end My
namespace LM
open PyProof.Rows
end LM
namespace My
open PySem L2 LM PyProof.Rows
end My
namespace My
open PySem L2 LM PyProof.Rows
end My
namespace L2
open PySem PySem.Spec PyProof.Rows
section
variable {prog : Program} {w : World} {A : Around} {E : Value → Shared → Prop} {s : Shared} {D kS : Addr} {vs : List Value} {kz : List Int} {ky : List Value} {c1 c2 : Nat} {P : PySem.Fin → Shared → Prop}
end
end L2
namespace L2
open PySem PySem.Spec PyProof.Rows
section
variable {X : Cx} {k : Nat} {f : Addr} {fd : FuncData} {ps : List Str} {sp : Sp}
theorem Inv.track {pins : List (Addr × Obj)} {σ : St} {H : Hp} {s : Shared} {h' : Heap} {D : Addr} {ys : List V} {its : List Value} {n t' : Nat} (I : Inv X pins σ H s) (fD : FpOk X pins H D) (k : ∀ b o, b ≠ D → s.heap.get? b = some o → h'.get? b = some o)
    (hv : Vals ys its) (hz : ys.length ≤ sizeLine) (g : h'.get? D = some { cls := .type "list", data := .seq its.toArray n }) : Inv X pins σ (upd H D (.lst ys)) { s with heap := h', toks := t' } := by
  obtain ⟨f0, f1, f2, f3, f4, f5⟩ := fD
  have nD : ∀ b u, H b = some u → b ≠ D := fun b u e z => by rw [z, f0] at e; cases e
  refine I.step (g' := s.gens) (d' := s.drawn) (ch := [D]) (fun b hb => ?_) (fun b o _ _ hc e _ => k b o (fun z => hc (by simp [z])) e) (fun b o _ _ hc e _ => ⟨o.slots, k b o (fun z => hc (by simp [z])) e⟩)
    (fun b o hc _ q => by rw [upd_ne (fun z => hc (by simp [z]))]; exact q) (fun b o hc e => ⟨o, k b o (fun z => hc (by simp [z])) e⟩) (fun b xs e => by rw [upd_ne (nD b _ e)]; exact e) (fun b o u e => by rw [upd_ne (nD b _ e)]; exact e)
    (fun b ps e => ⟨#[], by rw [upd_ne (nD b _ e), e]; simp⟩) (fun m hm => ?_) (fun b u e => ?_) I.bare
  · obtain rfl : b = D := by simpa using hb
    exact ⟨f3, f1, f4, f5⟩
  · obtain ⟨o, es, ep, ho, r⟩ := hm
    exact ⟨o, es, ep, k _ o (Ne.symm f1) ho, r⟩
  · by_cases hbD : b = D
    · subst hbD
      rw [upd_same] at e
      cases e
      exact ⟨hz, its, n, hv, g⟩
    · rw [upd_ne hbD] at e
      refine (I.hok b u e).stay (fun c v hc q => k c v ?_ q) (fun c q => ?_) fun c xs q => ?_
      · rcases hc with z | z
        · rw [z]; exact hbD
        · exact nD c _ z
      · rw [upd_ne (nD c _ q)]; exact q
      · rw [upd_ne (nD c _ q)]; exact q
end
end L2
namespace L2
open PySem PySem.Spec PyProof.Rows
end L2
namespace LM
open PyProof.Rows
end LM
namespace My
open PySem L2 LM PyProof.Rows
end My
namespace L2
open PySem PySem.Spec PyProof.Rows
theorem ObjOk.there {P : Program} {w : World} {H : Hp} {h : Heap} {a : Addr} : ∀ {o : HO}, ObjOk P w H h a o → ∃ ob, h.get? a = some ob
  | .lst _, ⟨_, _, _, _, e⟩ => ⟨_, e⟩
  | .tup _, ⟨_, _, _, o, e, _⟩ => ⟨o, e⟩
  | .dK _, ⟨_, _, _, _, o, _, _, e, _⟩ => ⟨o, e⟩
  | .dT _, ⟨_, _, _, _, o, _, _, e, _⟩ => ⟨o, e⟩
  | .set _ _, x => let ⟨o, e, _⟩ := (show h.SetOf (intKind P w) a _ _ from x).objOf; ⟨o, e⟩
  | .ins _ _ _, ⟨_, _, _, e, _⟩ => ⟨_, e⟩
  | .own _, ⟨o, e⟩ => ⟨o, e⟩
  | .xd _, ⟨_, n, _⟩ => by obtain ⟨o, e, _⟩ := lookIn_ns n; exact ⟨o, e⟩
  | .rng _ _, ⟨_, _, _, e⟩ => ⟨_, e⟩
  | .frz _ _, ⟨e, _⟩ => ⟨_, e⟩
  | .tbl _, e => ⟨_, e⟩
  | .met _ _, e => ⟨_, e⟩
  | .ext _, ⟨_, ⟨o, e⟩, _⟩ => ⟨o, e⟩
section
variable {X : Cx} {pins : List (Addr × Obj)} {σ : St} {H : Hp} {s : Shared}
theorem Inv.untr (I : Inv X pins σ H s) {b : Addr} (e : s.heap.get? b = none) : H b = none := by
  cases q : H b with
  | none => rfl
  | some o =>
    obtain ⟨ob, z⟩ := (I.hok b o q).there
    rw [e] at z
    cases z
/-- the slots of the frames and the new records at ch have changed, nothing else -/
theorem Inv.flown {h' : Heap} {ch : List Addr} {t' : Nat} (I : Inv X pins σ H s)
    (hch : ∀ b ∈ ch, X.s₀.heap.get? b = none ∧ H b = none ∧ b ≠ X.env.locals ∧ (∀ x c, X.env.cells.lookup x = some c → c ≠ b) ∧ ∀ p ∈ X.pn ++ pins, p.1 ≠ b)
    (keep : ∀ b o, b ∉ frs X.stack → b ∉ ch → s.heap.get? b = some o → h'.get? b = some o) (slot : ∀ b o, b ∈ frs X.stack → s.heap.get? b = some o → ∃ sl, h'.get? b = some { o with slots := sl }) :
    Inv X pins σ H { s with heap := h', toks := t' } := by
  have any : ∀ b o, b ∉ ch → s.heap.get? b = some o → ∃ sl, h'.get? b = some { o with slots := sl } := fun b o hc e => by
    by_cases hb : b ∈ frs X.stack
    · exact slot b o hb e
    · exact ⟨o.slots, keep b o hb hc e⟩
  have nch : ∀ b o, X.s₀.heap.get? b = some o → b ∉ ch := fun b o e hb => by rw [(hch b hb).1] at e; cases e
  have nst : ∀ b o, X.s₀.heap.get? b = some o → b ∉ X.fs → b ∉ frs X.stack := fun b o e hb z => by
    rcases List.mem_cons.mp (I.stkSub b z) with q | q
    · rw [q] at e
      exact absurd (Nat.lt_of_lt_of_le (Heap.lt_size e) I.ok.above) (Nat.lt_irrefl _)
    · exact hb q
  have cellK : ∀ x c, X.env.cells.lookup x = some c → ∀ v, s.heap.IsCell c v → h'.IsCell c v := fun x c e v ⟨o, ho, hd⟩ => by
    obtain ⟨sl, q⟩ := any c o (fun z => (hch c z).2.2.2.1 x c e rfl) ho
    exact ⟨_, q, hd⟩
  refine ⟨I.ok, I.os, I.bare, ⟨fun b o e n hb hx => ?_, fun b o e n hb hx => ?_, I.base.free, fun b o e hx => ?_, I.base.tups, I.base.frzs, I.base.tbls⟩, ?_, fun x c e => ?_, I.free, I.freeC, fun p hp => ?_, fun b u e => ?_, I.len⟩
  · exact keep b o (nst b o e hb) (nch b o e) (I.base.keep b o e n hb hx)
  · obtain ⟨sl, e1⟩ := I.base.slot b o e n hb hx
    obtain ⟨sl2, e2⟩ := any b _ (nch b o e) e1
    exact ⟨sl2, e2⟩
  · obtain ⟨o', e1⟩ := I.base.there b o e hx
    obtain ⟨sl, e2⟩ := any b o' (nch b o e) e1
    exact ⟨_, e2⟩
  · obtain ⟨m, ⟨o, es, ep, ho, r⟩, hl⟩ := I.loc
    obtain ⟨sl, hL⟩ := any _ o (fun z => (hch _ z).2.2.1 rfl) ho
    refine ⟨m, ⟨_, es, ep, hL, r⟩, fun i x v e1 e2 e3 => ?_⟩
    obtain ⟨u, r', l⟩ := hl i x v e1 e2 e3
    refine ⟨u, r', ?_⟩
    rcases l with l | ⟨k, c, e, z⟩
    · exact .inl l
    · exact .inr ⟨k, c, e, cellK x c e _ z⟩
  · obtain ⟨v, z⟩ := I.cell x c e
    exact ⟨v, cellK x c e v z⟩
  · obtain ⟨e, n, ne, nf, d⟩ := I.pin p hp
    refine ⟨keep p.1 p.2 (fun z => ?_) (fun z => (hch _ z).2.2.2.2 p hp rfl) e, n, ne, nf, d⟩
    rcases List.mem_cons.mp (I.stkSub _ z) with q | q
    · exact ne q
    · exact nf q
  · refine (I.hok b u e).stay (fun c v hc q => ?_) (fun _ q => q) fun _ _ q => q
    have hcu : ∃ y, H c = some y := by
      rcases hc with z | z
      · rw [z]; exact ⟨u, e⟩
      · exact ⟨_, z⟩
    obtain ⟨y, hy⟩ := hcu
    refine keep c v (fun z => ?_) (fun z => ?_) q
    · rw [I.stkFree c z] at hy; cases hy
    · rw [(hch c z).2.1] at hy; cases hy
/-- an exception at x, its newest station at T -/
noncomputable def Trc (h : Heap) (x T : Addr) (cls a0 : Value) : Prop :=
  ∃ oe vs oT ts, h.get? x = some oe ∧ (oe.cls = cls ∧ vs[0]? = some a0) ∧ oe.data = .fields vs ∧ vs[1]? = some (.ref T) ∧ T ≠ x ∧ h.get? T = some oT ∧ oT.data = .fields ts ∧ ts[3]? = some .none
theorem fly_of {x T : Addr} {cls a0 : Value} (I : Inv X pins σ H s) (t : Trc s.heap x T cls a0) : Heap.FlyingW (PySem.W.hideAll s.heap (frs X.stack ++ [x, T])) X.stack x cls a0 s.heap := by
  obtain ⟨oe, vs, oT, ts, a1, a2, a3, a4, a5, a6, a7, a8⟩ := t
  refine ⟨fun b o q => PySem.W.of_hideAll _ q, PySem.W.hideAll_none _ (by simp), PySem.W.funFrames_hide I.stack fun env he a ha => List.mem_append_left _ (List.mem_filterMap.mpr ⟨env, he, ha⟩), oe, vs, T, oT, ts, a1, a2, a3, a4, PySem.W.hideAll_none _ (by simp), a5, a6, a7, a8⟩
/-- how an exception of one's own lies behind a call -/
noncomputable def CXe (P : Program) (w : World) : CXT := fun outer H s E e s' => ∃ x C T H' a0, e = .ref x ∧ s'.os = s.os ∧ AllBare s'.gens ∧ Un (frs outer) [] H H' s.heap s'.heap ∧ HOk P w H' s'.heap ∧
  s.heap.get? x = none ∧ s.heap.get? T = none ∧ H' x = none ∧ H' T = none ∧ Trc s'.heap x T (.ref C) a0 ∧ E (.ref C) none H'
/-- behind noteFrame, leaving and their like: the state -/
theorem Inv.landed {x T : Addr} {h' : Heap} {t' : Nat} (I : Inv X pins σ H s) (n1 : X.s₀.heap.get? x = none) (n2 : X.s₀.heap.get? T = none) (u1 : H x = none) (u2 : H T = none)
    (g1 : ∀ p ∈ X.pn ++ pins, p.1 ≠ x) (g2 : ∀ p ∈ X.pn ++ pins, p.1 ≠ T) (c1 : ∀ y c, X.env.cells.lookup y = some c → c ≠ x) (c2 : ∀ y c, X.env.cells.lookup y = some c → c ≠ T) (l1 : x ≠ X.env.locals) (l2 : T ≠ X.env.locals)
    (st : (PySem.W.hideAll s.heap (frs X.stack ++ [x, T])).StaysIn h') (us : s.heap.UpToSlots h') : Inv X pins σ H { s with heap := h', toks := t' } := by
  refine I.flown (ch := [x, T]) (fun b hb => ?_) (fun b o hb hc e => st b o (PySem.W.hideAll_get _ e fun z => ?_)) (fun b o hb e => ?_)
  · rcases List.mem_cons.mp hb with q | q
    · subst q; exact ⟨n1, u1, l1, c1, g1⟩
    · rw [List.mem_singleton] at q
      subst q; exact ⟨n2, u2, l2, c2, g2⟩
  · rcases List.mem_append.mp z with q | q
    · exact hb q
    · exact hc q
  · obtain ⟨_, o', ho, hnf⟩ := I.stack.mem hb
    rw [e] at ho
    cases ho
    exact us b o e hnf
end
end L2
namespace L2
open PySem PySem.Spec PyProof.Rows
section
variable {X : Cx} {pins : List (Addr × Obj)} {σ : St} {H : Hp} {s : Shared}
theorem Inv.apart {x : Addr} (I : Inv X pins σ H s) (hex : X.ex = []) (n : s.heap.get? x = none) :
    X.s₀.heap.get? x = none ∧ (∀ p ∈ X.pn ++ pins, p.1 ≠ x) ∧ (∀ y c, X.env.cells.lookup y = some c → c ≠ x) ∧ x ≠ X.env.locals := by
  refine ⟨?_, fun p hp z => ?_, fun y c e z => ?_, fun z => ?_⟩
  · cases q : X.s₀.heap.get? x with
    | none => rfl
    | some o =>
      obtain ⟨o', e⟩ := I.base.there x o q (by rw [hex]; simp)
      rw [n] at e; cases e
  · have := (I.pin p hp).1
    rw [z, n] at this; cases this
  · obtain ⟨v, o, ho, _⟩ := I.cell y c e
    rw [z, n] at ho; cases ho
  · obtain ⟨m, ⟨o, es, ep, ho, _⟩, _⟩ := I.loc
    rw [← z, n] at ho; cases ho
/-- what is traced behind a station is new, too -/
theorem traced_new {B h' : Heap} {x : Addr} {cls a0 : Value} {as : List Addr} (I : Inv X pins σ H s) (hex : X.ex = []) (eB : B = PySem.W.hideAll s.heap (frs X.stack ++ as)) (has : ∀ b ∈ as, X.s₀.heap.get? b = none ∧ H b = none)
    (J : ∀ b ∈ frs X.stack, ∃ o, h'.get? b = some o ∧ ∀ vs, o.data ≠ .fields vs) (t : h'.TracedW B x cls a0) : ∃ T, Trc h' x T cls a0 ∧ X.s₀.heap.get? T = none ∧ H T = none := by
  obtain ⟨oe, vs, T, oT, ts, a1, a2, a3, a4, a5, a6, a7, a8, a9⟩ := t
  have hid : ∀ o, s.heap.get? T = some o → T ∈ as := fun o e => by
    by_cases hm : T ∈ frs X.stack ++ as
    · rcases List.mem_append.mp hm with q | q
      · obtain ⟨o', e', nf⟩ := J T q
        rw [a7] at e'; cases e'
        exact absurd a8 (nf ts)
      · exact q
    · rw [eB, PySem.W.hideAll_get _ e hm] at a5; cases a5
  refine ⟨T, ⟨oe, vs, oT, ts, a1, a2, a3, a4, a6, a7, a8, a9⟩, ?_, ?_⟩
  · cases q : X.s₀.heap.get? T with
    | none => rfl
    | some o =>
      obtain ⟨o', e⟩ := I.base.there T o q (by rw [hex]; simp)
      rw [(has T (hid o' e)).1] at q; cases q
  · cases q : H T with
    | none => rfl
    | some o =>
      obtain ⟨o', e⟩ := (I.hok T o q).there
      rw [(has T (hid o' e)).2] at q; cases q
end
section
variable {P : Program} {w : World} {K : PySem.W.Frag} {mg : Str → Option Value} {base : Heap} {N : List Str} {qual : Str} {scope : Scope} {f : Addr} {cd : Value} {A : Around} {outer : List Env} {s : Shared} {H : Hp} {E : XK}
  {pins : List (Addr × Obj)} {σ : St}
theorem xe_fly {x T C : Addr} {a0 : Value} {H2 H' : Hp} {s2 s' : Shared} (I2 : Inv (cxOf (CXe P w) P w K mg base N qual scope f cd A outer s H E) pins σ H2 s2) (n1 : s2.heap.get? x = none) (n2 : s2.heap.get? T = none)
    (I : Inv (cxOf (CXe P w) P w K mg base N qual scope f cd A outer s H E) pins σ H' s') (t : Trc s'.heap x T (.ref C) a0) (u1 : H' x = none) (u2 : H' T = none) (e : E (.ref C) none H') :
    (cxOf (CXe P w) P w K mg base N qual scope f cd A outer s H E).xe (.ref x) s' := by
  obtain ⟨p1, p2, p3, p4⟩ := I2.apart rfl n1
  obtain ⟨r1, r2, r3, r4⟩ := I2.apart rfl n2
  refine wpAny_leaves_onW (outer := outer) I.ok.frames rfl (fly_of I t) fun h' fl us => ?_
  have J := I.landed (t' := s'.toks) p1 r1 u1 u2 p2 r2 p3 r3 p4 r4 fl.1 us
  obtain ⟨T', t', q1, q2⟩ := traced_new I rfl rfl (as := [x, T]) (fun b hb => by
    rcases List.mem_cons.mp hb with q | q
    · subst q; exact ⟨p1, u1⟩
    · rw [List.mem_singleton] at q; subst q; exact ⟨r1, u2⟩) (fun b hb => by obtain ⟨_, o, ho, nf⟩ := J.stack.mem hb; exact ⟨o, ho, nf⟩) fl.2.2.2
  exact ⟨x, C, T', H', a0, rfl, J.os, J.bare, J.base, J.hok, p1, q1, u1, q2, t', e⟩
theorem xe_made {e C : Addr} {vs : List Value} {h' : Heap} {H1 : Hp} {s1 : Shared} (I : Inv (cxOf (CXe P w) P w K mg base N qual scope f cd A outer s H E) pins σ H1 s1) (hx : Heap.MadeExcOf s1.heap h' e (.ref C) vs) (ee : E (.ref C) none H1) :
    (cxOf (CXe P w) P w K mg base N qual scope f cd A outer s H E).xe (.ref e) { s1 with heap := h' } := by
  obtain ⟨p1, p2, p3, p4⟩ := I.apart rfl hx.new
  refine wpAny_leaves_madeW (base := PySem.W.hideAll s1.heap (frs (envOfC qual scope s.heap.objs.size f cd :: outer) ++ [])) (h := s1.heap) (outer := outer) I.ok.frames rfl (fun b o q => PySem.W.of_hideAll _ q)
    (PySem.W.funFrames_hide I.stack fun env he a ha => List.mem_append_left _ (List.mem_filterMap.mpr ⟨env, he, ha⟩)) hx fun h'' t fl _ _ us => ?_
  have J : Inv (cxOf (CXe P w) P w K mg base N qual scope f cd A outer s H E) pins σ H1 { s1 with heap := h'', toks := s1.toks } := I.flown (ch := []) (fun _ z => nomatch z)
    (fun b o hb _ e' => fl.1 b o (PySem.W.hideAll_get _ e' fun z => by
      rcases List.mem_append.mp z with q | q
      · exact hb q
      · exact absurd q (by simp))) (fun b o hb e' => by
    obtain ⟨_, o', ho, hnf⟩ := I.stack.mem hb
    rw [e'] at ho; cases ho
    exact us b o (hx.keeps b o e') hnf)
  obtain ⟨T', t', q1, q2⟩ := traced_new I rfl rfl (as := []) (fun _ z => nomatch z) (fun b hb => by obtain ⟨_, o, ho, nf⟩ := J.stack.mem hb; exact ⟨o, ho, nf⟩) fl.2.2.2
  exact ⟨e, C, T', H1, _, rfl, J.os, J.bare, J.base, J.hok, p1, q1, I.untr hx.new, q2, t', ee⟩
theorem pass_on {E' : XK} (h : ∀ C o H, E' C o H → E C o H) : Passes (CXe P w) (cxOf (CXe P w) P w K mg base N qual scope f cd A outer s H E) E' := by
  rintro pins σ H2 s2 e s' I2 ⟨x, C, T, H', a0, rfl, os, bare, un, hok, n1, n2, u1, u2, t, ee⟩
  exact xe_fly I2 n1 n2 (I2.call' (ch := []) os un hok bare (fun _ z => nomatch z)) t u1 u2 (h _ _ _ ee)
end
/-- a def that may raise, as its callers take it -/
structure DfE (P : Program) (w : World) (K : PySem.W.Frag) (mg : Str → Option Value) (base : Heap) (k : Nat) (x : Str) (ps : List Str) (sp : Sp) : Prop where
  ex : ∃ f fd, FnOk P w K mg base (CXe P w) k f fd ps sp ∧ Binds K fd ps [] ∧ mg x = some (.ref f) ∧ PySem.W.keepIn K (.ref f) = true
theorem Tx.dfE {P : Program} {w : World} {K : PySem.W.Frag} {mg : Str → Option Value} {base : Heap} {x : Str} {st : Stmt} {N ps : List Str} {k : Nat} {sp : Sp} (T : Tx K mg x st ps) (S : FnScope N ps (defScope st))
    (len : ∀ vs H Q E, sp vs H Q E → vs.length = ps.length)
    (hbody : ∀ (f : Addr) (cdv : Value) (A : Around) (outer : List Env) (s : Shared) (H : Hp) (vs : List V) (Q : VK) (E : XK), Room k (A.deeper (envOfC x (defScope st) s.heap.objs.size f cdv)) → sp vs H Q E →
      ∃ t, PSs (cxOf (CXe P w) P w K mg base N x (defScope st) f cdv A outer s H E) (defBody st) t ∧ t { nx := fun _ H' => Q .non H', rt := Q } (start N vs) H) : DfE P w K mg base (k + 1) x ps sp := by
  obtain ⟨f, fd, F, b, hm⟩ := T.ex
  obtain ⟨oc, od, kV, doc, pm, an, cdv, ct, osl, rfl, lk, hcd⟩ := id F.ex
  exact ⟨f, _, fn_of lk hcd S len fun A outer s H vs Q E hr h => hbody f cdv A outer s H vs Q E hr h, b, hm, F.kp⟩
end L2
namespace L2
open PySem PySem.Spec PyProof.Rows
abbrev vErr : List Value := [.type "ValueError", .type "Exception", .type "BaseException", .type "object"]
/-- an exception class of the text under ValueError, without an __init__ -/
structure ExcCl (K : PySem.W.Frag) (mg : Str → Option Value) (x : Str) (C : Addr) : Prop where
  mg : mg x = some (.ref C)
  ok : PySem.W.excIn K C vErr "ValueError.__new__" = true
theorem exc_of_in {K : PySem.W.Frag} {h : Heap} {C : Addr} (X : K.In h) (z : PySem.W.excIn K C vErr "ValueError.__new__" = true) :
    ∃ tl N nm qn bs hd sn sub ab col dd k0 k1 k2 k3 k5 mN, h.get? C = some (excClassObj nm qn C N bs tl hd sn sub ab col dd k0 k1 k2 k3 k5 "ValueError.__new__") ∧ h.Ns N mN ∧ mN "__init__" = none ∧ OwnTail h vErr tl ∧ ∀ b r, PySem.W.mroIn K C b = some r → (Value.ref C :: tl).contains b = r := by
  unfold PySem.W.excIn at z
  split at z
  case h_2 => cases z
  case h_1 dd cd sl ho =>
    split at z
    case h_2 => cases z
    case h_1 C' tl k0 k1 k2 k3 n k5 hm hs =>
      rw [Bool.and_eq_true, Bool.and_eq_true, Bool.and_eq_true, Bool.and_eq_true, Bool.and_eq_true, beq_iff_eq, beq_iff_eq, beq_iff_eq] at z
      obtain ⟨⟨⟨⟨⟨z1, z2⟩, z3⟩, z4⟩, z5⟩, z6⟩ := z
      subst z1
      subst z2
      have z3' : cd.hasDel = false := by simpa using z3
      obtain ⟨nm, bs, mro, ns, qn, hd, sn, sub, ab, col, del⟩ := cd
      dsimp only at hm z3' z5 z6
      subst hm
      subst z3'
      obtain rfl : sl = #[k0, k1, k2, k3, some (.builtin "ValueError.__new__"), k5] := by
        rw [← hs]
      exact ⟨tl, ns, nm, qn, bs, hd, sn, sub, ab, col, dd, k0, k1, k2, k3, k5, _, X _ _ ho, .of_isNs (PySem.W.isNs_of_in X z5), PySem.W.nsMap_none_of_in X z5 z6, PySem.W.tail_of_in X z4, fun b r hr => by
        unfold PySem.W.mroIn PySem.W.clsIn at hr
        rw [ho] at hr
        simpa using hr⟩
section
variable {X : Cx} {pins : List (Addr × Obj)} {σ : St} {H : Hp} {s : Shared}
/-- raise C(e) -/
noncomputable def tRz (t : TA) (W : Hp → Prop) : TS := fun _ σ H => t σ H fun vs H1 => vs.length ≤ sizeLine ∧ W H1
theorem ps_raise {c : Str} {C : Addr} {e : Expr} {es : List Expr} {t : TA} {np cpos pos : Pos} {W : Hp → Prop} (Z : ExcCl X.K X.mg c C) (hc : X.calm = true) (ha : PA X (e :: es) t)
    (hw : ∀ pins σ H1 s1 h' x vs, Inv X pins σ H1 s1 → Heap.MadeExcOf s1.heap h' x (.ref C) vs → W H1 → X.xe (.ref x) { s1 with heap := h' })
    (hg : Gl X c := by rfl) (hd : (c == ("__debug__" : Str)) = false := by decide) (he : starEach (e :: es) X.env = (false, eval e X.env) :: starEach es X.env := by rfl) (hpl : (backTo cpos (starEach es X.env)).any (·.1) = false := by rfl) :
    PS X (.Raise (some (.Call (.Name c np) (e :: es) [] cpos)) none pos) (tRz t W) := by
  intro pins s σ H D I h
  obtain ⟨tl, N, nm, qn, bs, hdt, sn, sub, ab, col, dd, k0, k1, k2, k3, k5, mN, hC, hN, hni, T, _⟩ := exc_of_in I.ok.mod.kin Z.ok
  refine wpAny_Raise_call_subT (C := C) (nm := nm) (q := qn) (N := N) (bs := bs) (bm := tl) (hdct := hdt) (sn := sn) (sub := sub) (ab := ab) (col := col) (dd := dd) (k0 := k0) (k1 := k1) (k2 := k2) (k3 := k3) (k5 := k5)
    PySem.F.excBase_ValueError (mN := mN) (T.hasType rfl) (I.ok.hd hc) (by rw [he]; show (false || (backTo cpos (starEach es X.env)).any (·.1)) = false; rw [hpl]; rfl) hni (ld_glob I hg Z.mg ⟨rfl, ?_⟩ hd)
  have ha' := ha cpos pins s σ H _ I h
  rw [he] at ha' ⊢
  refine Calls.evalArgs_plain (thn ha' fun us s1 ⟨vs, H1, I1, r1, hl, q⟩ => ⟨rfl, by rw [← r1.length]; exact hl, I1.bk _ _ hC, hN.keeps I1.bk, T.keeps I1.bk, fun h' x hx => ?_⟩)
  exact hw pins σ H1 s1 h' x us I1 hx q
/-- f(e, ..), f may raise; the exception passes on -/
noncomputable def tCE (sp : Sp) (E : XK) (t : TA) : TE := fun σ H Q => t σ H fun vs H1 => sp vs H1 Q E
theorem pe_dfE {j k : Nat} {x : Str} {ps : List Str} {sp : Sp} {E : XK} {p pos : Pos} {e : Expr} {es : List Expr} {t : TA} (D : DfE X.prog X.w X.K X.mg X.base j x ps sp) (hr : Room k X.A) (hx : Passes (CXe X.prog X.w) X E) (ha : PA X (e :: es) t) (hg : Gl X x := by rfl) (hj : j ≤ k := by decide)
    (hdb : (x == ("__debug__" : Str)) = false := by decide) (he : starEach (e :: es) X.env = (false, eval e X.env) :: starEach es X.env := by rfl) (hpl : (backTo pos (starEach es X.env)).any (·.1) = false := by rfl) :
    PE X (.Call (.Name x p) (e :: es) [] pos) (tCE sp E t) := by
  obtain ⟨f, fd, F, b, hm, kp⟩ := D.ex
  have h := pe_call (ds := []) (dvs := []) (E := E) (p := p) (pos := pos) F (hr.mono hj) hg hm kp b .nil hx ha hdb he hpl
  have e1 : tCall sp [] E t = tCE sp E t := by
    funext σ H Q
    unfold tCall tCE
    simp only [List.append_nil]
  rw [e1] at h
  exact h
end
end L2
namespace L2
open PySem PySem.Spec PyProof.Rows
/-- within an except suite -/
noncomputable abbrev Cx.marked (X : Cx) (x : Addr) : Cx := { X with A := X.A.mark (some (.ref x)), calm := false, xe := fun _ _ => False }
section
variable {X : Cx} {pins : List (Addr × Obj)} {σ : St} {H : Hp} {s : Shared} {x : Addr}
theorem Inv.marked (I : Inv X pins σ H s) (x : Addr) : Inv (X.marked x) pins σ H s :=
  ⟨⟨I.ok.mod, I.ok.kind, I.ok.glob, I.ok.blt, I.ok.above, I.ok.inj, I.ok.has, I.ok.cab, (fun z => by cases z), I.ok.frames, I.ok.stk, I.ok.exf, I.ok.bs, I.ok.bsz, I.ok.noex, I.ok.exfs, I.ok.funs, I.ok.frf⟩, I.os, I.bare, I.base, I.loc, I.cell, I.free, I.freeC, I.pin, I.hok, I.len⟩
theorem Inv.unmarked (ok : X.Ok) (I : Inv (X.marked x) pins σ H s) : Inv X pins σ H s := ⟨ok, I.os, I.bare, I.base, I.loc, I.cell, I.free, I.freeC, I.pin, I.hok, I.len⟩
theorem SP.unmarked {D : Ends} {f : Flow} {s' : Shared} (ok : X.Ok) (h : SP (X.marked x) pins D f s') : SP X pins D f s' := by
  cases f with
  | next => obtain ⟨σ', H', I, q⟩ := h; exact ⟨σ', H', I.unmarked ok, q⟩
  | brk => obtain ⟨σ', H', I, q⟩ := h; exact ⟨σ', H', I.unmarked ok, q⟩
  | cont => obtain ⟨σ', H', I, q⟩ := h; exact ⟨σ', H', I.unmarked ok, q⟩
  | ret u => obtain ⟨v, σ', H', I, r, q⟩ := h; exact ⟨v, σ', H', I.unmarked ok, r, q⟩
end
theorem excMatches_own {M : Model} {A : Around} {E : Value → Shared → Prop} {nm nm' q q' : Str} {C C' N N' : Addr} {bs bs' tl tl' : List Value} {hd hd' : Bool} {sn sn' : List Str} {sub sub' : List Value} {ab ab' : Bool} {col col' : Option Bool} {dd dd' : Option Addr}
    {k0 k1 k2 k3 k5 j0 j1 j2 j3 j5 : Option Value} {i i' : String} {s : Shared} {x : Addr} {oe : Obj} {Q : Bool → Shared → Prop} {r : Bool}
    (hC : s.heap.get? C = some (excClassObj nm q C N bs tl hd sn sub ab col dd k0 k1 k2 k3 k5 i)) (hC' : s.heap.get? C' = some (excClassObj nm' q' C' N' bs' tl' hd' sn' sub' ab' col' dd' j0 j1 j2 j3 j5 i')) (he : s.heap.get? x = some oe) (hcls : oe.cls = .ref C)
    (hb : tl'.contains (.type "BaseException") = true) (hr : (Value.ref C :: tl).contains (.ref C') = r) (hq : Q r s) : wpAny M A (excMatches (.ref x) (.ref C')) Q E s := by
  obtain ⟨h, g, d, t, os⟩ := s
  have hcB : (Value.ref C' :: tl').contains (.type "BaseException") = true := by rw [List.contains_cons, hb, Bool.or_true]
  have f := tc_notTuple
  unfold excMatches
  repeat (first | (with_reducible refine wpAny_loadPart_at he ?_; rw [hcls]) | with_reducible refine wpAny_loadPart_at hC' ?_ | (with_reducible refine wpAny_isSubtype_exc hC' ?_; rw [hcB]) | (with_reducible refine wpAny_isSubtype_exc hC ?_; rw [hr]) | wp_step)
  cases r <;> (wp_walk; exact hq)
end L2
namespace L2
open PySem PySem.Spec PyProof.Rows
section
variable {X : Cx} {pins : List (Addr × Obj)} {σ : St}
/-- what a clause wants of an exception of the class at C -/
structure Hit (K : PySem.W.Frag) (mg : Str → Option Value) (c : Str) (C : Addr) : Prop where
  ok : PySem.W.excIn K C vErr "ValueError.__new__" = true
  ex : ∃ C', ExcCl K mg c C' ∧ PySem.W.mroIn K C (.ref C') = some true
end
end L2
namespace L2
open PySem PySem.Spec PyProof.Rows
/-- the facts of an exception class by which isinstance of its instances is told -/
structure ExcA (K : PySem.W.Frag) (C : Addr) : Prop where
  ga : PySem.W.findIn K (.ref C) "__getattribute__" = some (some (.builtin "BaseException.__getattribute__"))
  gt : PySem.W.findIn K (.ref C) "__getattr__" = some none
  cl : PySem.W.findIn K (.ref C) "__class__" = some (some (.builtin "object.__class__"))
  be : PySem.W.mroIn K C (.type "BaseException") = some true
  ob : PySem.W.mroIn K C (.type "object") = some true
section
variable {prog : Program} {w : World} {A : Around} {E : Value → Shared → Prop} {h : Heap} {g : Array GenState} {d : Drawn} {t : Nat} {os : OsState} {K : PySem.W.Frag} {a C : Addr} {o : Obj}
theorem xcls_get {R : Result → Shared → Prop} (X : K.In h) (Z : ExcA K C) (hx : h.get? a = some o) (hc : o.cls = .ref C) (hq : R (.ok (.ret (.ref C))) ⟨h, g, d, t, os⟩) :
    codeAny (model prog w) A (.call (.builtin "getset_descriptor.__get__") ⟨[.builtin "object.__class__", .ref a, .ref C], []⟩) R ⟨h, g, d, t, os⟩ := by
  have z5 : (⟨h, g, d, t, os⟩ : Shared).TypeIs (.builtin "object.__class__") "getset_descriptor" := PySem.F.typeOf_object_class
  have S2 : PySem.W.Looks (model prog w) h (isSubtype (.ref C) (.type (".".intercalate ("object.__class__".cutAt '.').dropLast))) true := by
    rw [PySem.F.owner_object_class]
    exact PySem.W.looks_mroIn X Z.ob
  refine codeAny_call_builtin PySem.F.slot_gs_get.plain PySem.F.entry_gs_get (PySem.F.slot_gs_get.check _ _ _ _ _ _ _ _ z5 (PySem.F.args_gs_get _ _ _) ?_)
  repeat (any_goals (first | assumption | (with_reducible refine wpAny_loadPart_at hx ?_; rw [hc]) | with_reducible refine S2.at ?_ | wp_step))
  refine ⟨Code.quiet_builtin _ (by decide +kernel), codeAny_builtin PySem.F.entry_object_class ?_⟩
  repeat (any_goals (first | assumption | (with_reducible refine wpAny_loadPart_at hx ?_; rw [hc]) | wp_step))
theorem xcls_entry {tk : Tok} {Q : PySem.Fin → Shared → Prop} (X : K.In h) (Z : ExcA K C) (hx : h.get? a = some o) (hc : o.cls = .ref C) (hq : Q (.done (.ret (.ref C))) ⟨h, g, d, t, os⟩) :
    wpAny (model prog w) A (Builtin.«object.__getattribute__» ⟨[.ref a, .str "__class__" tk], []⟩) Q E ⟨h, g, d, t, os⟩ := by
  have z5 : (⟨h, g, d, t, os⟩ : Shared).TypeIs (.builtin "object.__class__") "getset_descriptor" := PySem.F.typeOf_object_class
  have L3 := PySem.W.looks_findIn (M := model prog w) X Z.cl
  have f5 := PySem.F.typeOf_object_class
  have f6 := PySem.F.slot_gs_get.lookup
  have f7 := PySem.F.slot_gs_set.lookup
  repeat (any_goals (first | assumption | (with_reducible refine wpAny_loadPart_at hx ?_; rw [hc]) | with_reducible refine L3.at ?_ | wp_step))
  refine xcls_get X Z hx hc ?_
  repeat (any_goals (first | assumption | wp_step))
theorem xcls_check {M : Model} {v : Value} {Q : Unit → Shared → Prop} (X : K.In h) (Z : ExcA K C) (hx : h.get? a = some o) (hc : o.cls = .ref C) (hq : Q () ⟨h, g, d, t, os⟩) : wpAny M A (checkBuiltinCall "BaseException.__getattribute__" ⟨[.ref a, v], []⟩) Q E ⟨h, g, d, t, os⟩ := by
  have k1 : builtinKind "BaseException.__getattribute__" = some .slot := by decide +kernel
  have k2 : splitId "BaseException.__getattribute__" = some ("BaseException", "__getattribute__") := by decide +kernel
  have S1 := PySem.W.looks_mroIn (M := M) X Z.be
  have k3 := PySem.F.args_bexc_ga (.ref a) v
  simp only [checkBuiltinCall, k1, k2]
  refine wpAny_bind ?_
  unfold isInstance
  repeat (first | (with_reducible refine wpAny_loadPart_at hx ?_; rw [hc]) | with_reducible refine S1.at ?_ | wp_step)
  exact hq
theorem xcls_attr {Q : Option Value → Shared → Prop} (X : K.In h) (Z : ExcA K C) (hx : h.get? a = some o) (hc : o.cls = .ref C) (hq : Q (some (.ref C)) ⟨h, g, d, t + 1, os⟩) : wpAny (model prog w) A (getAttr? (.ref a) "__class__") Q E ⟨h, g, d, t, os⟩ := by
  have L1 := PySem.W.looks_findIn (M := model prog w) X Z.ga
  have L2 := PySem.W.looks_findIn (M := model prog w) X Z.gt
  have y0 : (false && onTheHeap (Value.builtin "BaseException.__getattribute__")) = false := rfl
  have y2 : (Value.builtin "BaseException.__getattribute__" == Value.builtin "object.__getattribute__") = false := by decide +kernel
  have y1 : (onTheHeap (Value.ref C) && Value.builtin "BaseException.__getattribute__" == Value.builtin "object.__getattribute__") = false := by rw [y2]; rfl
  have f5 := PySem.F.attrBase_ValueError.ga.bind (.ref a)
  unfold getAttr? getAttrBy?
  repeat (any_goals (first | assumption | (with_reducible refine wpAny_loadPart_at hx ?_; rw [hc]) | with_reducible refine L1.at ?_ | with_reducible refine L2.at ?_ | wp_step))
  refine codeAny_call_builtin PySem.F.attrBase_ValueError.ga.plain PySem.F.entry_bexc_ga (xcls_check X Z hx hc (xcls_entry X Z hx hc ?_))
  repeat (any_goals (first | assumption | wp_step))
end
/-- an exception, by its class -/
noncomputable def ExO (x C : Addr) : HO := .ext fun h => ∃ o, h.get? x = some o ∧ o.cls = .ref C
theorem kitx_exc {K : PySem.W.Frag} {x C : Addr} (Z : ExcA K C) : PySem.W.KitX K (.ref x) (.ref C) (fun h => ∃ o, h.get? x = some o ∧ o.cls = .ref C) where
  ty := fun _ _ _ ⟨o, e, c⟩ => c ▸ (PySem.W.Looks.ld e).andThen .now
  it := fun _ _ X _ => by
    have q := Z.ob
    unfold PySem.W.mroIn at q
    obtain ⟨cd, hc, _⟩ := Option.bind_eq_some_iff.mp q
    unfold PySem.W.clsIn at hc
    split at hc
    case h_2 => cases hc
    case h_1 ho =>
      intro A' Q' E' s' k q'
      unfold isType loadHead
      exact wpAny_bind (wpAny_loadPart (k _ _ (X _ _ ho)) (wpAny_pure q'))
  ne := fun h tp dd its n sl X htp => by
    have q := Z.ob
    unfold PySem.W.mroIn at q
    obtain ⟨cd, hc, _⟩ := Option.bind_eq_some_iff.mp q
    refine Bool.eq_false_iff.mpr fun z => ?_
    obtain rfl : C = tp := Value.ref.inj (beq_iff_eq.mp z)
    unfold PySem.W.clsIn at hc
    split at hc
    case h_2 => cases hc
    case h_1 ho =>
      have y := (X _ _ ho).symm.trans htp
      cases y
  ca := fun {_ _ _ _ _ s} X ⟨o, e, c⟩ k => by
    obtain ⟨h, g, d, t, os⟩ := s
    exact xcls_attr X Z e c k
section
variable {X : Cx}
/-- isinstance(e, c) of an exception -/
noncomputable def rIsx (K : PySem.W.Frag) : List V → Hp → VK → Prop := fun xs H Q => ∃ x C c cv b, xs = [.ref x, c] ∧ H x = some (ExO x C) ∧ ExcA K C ∧ RelV c cv ∧ (∀ u, RelV c u → u = cv) ∧ PySem.W.kitOne K (.ref C) cv = some b ∧ Q (.bl b) H
theorem call_isx : CallR X (.builtin "isinstance") (rIsx X.K) := by
  intro pins s σ H xs us Q I rs h
  obtain ⟨x, C, c, cv, b, rfl, hx, Z, rc, uc, e, q⟩ := h
  obtain ⟨u1, u2, rfl, r1, r2⟩ := vals2 rs
  cases r1
  obtain rfl := uc u2 r2
  have p : ∃ o, s.heap.get? x = some o ∧ o.cls = .ref C := (I.hok x _ hx).1
  exact PySem.W.kia_one (kitx_exc Z) I.kIn p e (fun z => nomatch z) fun tk => ⟨.bl b, H, I.tok _, rfl, q⟩
end
end L2
namespace L2
open PySem PySem.Spec PyProof.Rows
section
variable {X : Cx} {pins : List (Addr × Obj)} {σ : St} {H : Hp} {s : Shared}
/-- an exception that lies untracked is tracked by its class -/
theorem Inv.trackX {x C : Addr} {o : Obj} (I : Inv X pins σ H s) (n1 : X.s₀.heap.get? x = none) (u1 : H x = none) (p2 : ∀ p ∈ X.pn ++ pins, p.1 ≠ x) (p3 : ∀ y c, X.env.cells.lookup y = some c → c ≠ x) (p4 : x ≠ X.env.locals)
    (e : s.heap.get? x = some o) (hc : o.cls = .ref C) : Inv X pins σ (upd H x (ExO x C)) s := by
  have nx : ∀ b u, H b = some u → b ≠ x := fun b u e z => by rw [z, u1] at e; cases e
  refine ⟨I.ok, I.os, I.bare, ⟨I.base.keep, I.base.slot, fun b o' e1 n hx => ?_, I.base.there, fun b xs e1 => ?_, fun b o' u e1 => ?_, fun b ps e1 => ?_⟩, I.loc, I.cell, ?_, fun y c e1 => ?_, fun p hp => ?_, fun b u e1 => ?_, I.len⟩
  · rw [upd_ne (fun z => by rw [z, n1] at e1; cases e1)]
    exact I.base.free b o' e1 n hx
  · have q := I.base.tups b xs e1
    rw [upd_ne (nx b _ q)]; exact q
  · have q := I.base.frzs b o' u e1
    rw [upd_ne (nx b _ q)]; exact q
  · obtain ⟨more, q⟩ := I.base.tbls b ps e1
    exact ⟨more, by rw [upd_ne (nx b _ q)]; exact q⟩
  · rw [upd_ne (Ne.symm p4)]; exact I.free
  · rw [upd_ne (p3 y c e1)]; exact I.freeC y c e1
  · obtain ⟨a1, a2, a3⟩ := I.pin p hp
    exact ⟨a1, by rw [upd_ne (p2 p hp)]; exact a2, a3⟩
  · by_cases hb : b = x
    · subst hb
      rw [upd_same] at e1
      cases e1
      exact ⟨⟨o, e, hc⟩, ⟨o, e⟩, fun h1 h2 ⟨o1, e1, c1⟩ k => ⟨o1, k o1 e1, c1⟩⟩
    · rw [upd_ne hb] at e1
      refine (I.hok b u e1).stay (fun _ _ _ q => q) (fun c q => ?_) fun c xs q => ?_
      · rw [upd_ne (nx c _ q)]; exact q
      · rw [upd_ne (nx c _ q)]; exact q
/-- a local name has gone (or its value is not known any more) -/
theorem Inv.nameGone {h' : Heap} {n : Str} {i : Nat} {v : Option Value} {m : Str → Option Value} {t' : Nat} (I : Inv X pins σ H s) (hN : X.N.Nodup) (hi : X.N[i]? = some n)
    (hm : ∀ (i : Nat) (x : Str) (v : V), X.N[i]? = some x → σ[i]? = some (some v) → Vis X.env.scope x → ∃ u, RelV v u ∧ Look X.env s.heap m x u)
    (hn : h'.Ns X.env.locals fun x => if x = n then v else m x) (sb : Heap.SameBut X.env.locals s.heap h') : Inv X pins (σ.set i none) H { s with heap := h', toks := t' } := by
  have k : ∀ b o, b ≠ X.env.locals → s.heap.get? b = some o → h'.get? b = some o := fun b o hb e => (sb.2 b hb).trans e
  have nl : ∀ b o, X.s₀.heap.get? b = some o → b ≠ X.env.locals := fun b o e z => by
    rw [z] at e
    exact absurd (Nat.lt_of_lt_of_le (Heap.lt_size e) I.ok.above) (Nat.lt_irrefl _)
  have cellK : ∀ x c, X.env.cells.lookup x = some c → ∀ v, s.heap.IsCell c v → h'.IsCell c v := fun x c e v ⟨o, ho, hd⟩ => ⟨o, k c o (I.cne x c e) ho, hd⟩
  refine ⟨I.ok, I.os, I.bare, ⟨fun b o e n' hb hx => ?_, fun b o e n' hb hx => ?_, I.base.free, fun b o e hx => ?_, I.base.tups, I.base.frzs, I.base.tbls⟩, ⟨_, hn, fun j x v' e1 e2 e3 => ?_⟩, fun x c e => ?_, I.free, I.freeC, fun p hp => ?_, fun b u e => ?_, ?_⟩
  · exact k b o (nl b o e) (I.base.keep b o e n' hb hx)
  · obtain ⟨sl, q⟩ := I.base.slot b o e n' hb hx
    exact ⟨sl, k b _ (nl b o e) q⟩
  · obtain ⟨o', q⟩ := I.base.there b o e hx
    exact ⟨o', k b o' (nl b o e) q⟩
  · have hji : j ≠ i := fun z => by
      subst z
      rw [List.getElem?_set_self (by
        rw [I.len]
        exact (List.getElem?_eq_some_iff.mp e1).1)] at e2
      cases e2
    rw [List.getElem?_set_ne (Ne.symm hji)] at e2
    obtain ⟨u, r, l⟩ := hm j x v' e1 e2 e3
    have hxn : x ≠ n := fun z => hji (nodup_ix hN e1 (by rw [z]; exact hi))
    refine ⟨u, r, ?_⟩
    rcases l with ⟨q1, q2⟩ | ⟨q, c, e, z⟩
    · exact .inl ⟨q1, by show (if x = n then v else m x) = some u; rw [if_neg hxn]; exact q2⟩
    · exact .inr ⟨q, c, e, cellK x c e _ z⟩
  · obtain ⟨v', z⟩ := I.cell x c e
    exact ⟨v', cellK x c e v' z⟩
  · obtain ⟨e, a2, ne, a3⟩ := I.pin p hp
    exact ⟨k p.1 p.2 ne e, a2, ne, a3⟩
  · refine (I.hok b u e).stay (fun c v' hc q => k c v' (fun z => ?_) q) (fun _ q => q) fun _ _ q => q
    subst z
    rcases hc with z | z
    · rw [← z, I.free] at e; cases e
    · rw [I.free] at z; cases z
  · rw [List.length_set]; exact I.len
/-- the ends of a suite behind which the slot i is gone -/
noncomputable def Ends.gone (D : Ends) (i : Nat) : Ends := { D with nx := fun σ H => D.nx (σ.set i none) H, bk := fun σ H => D.bk (σ.set i none) H, ct := fun σ H => D.ct (σ.set i none) H }
theorem gone_ok {D : Ends} {f : Flow} {i : Nat} {n : Str} {pos : Pos} {E : Value → Shared → Prop} (hN : X.N.Nodup) (hi : X.N[i]? = some n) (hl : X.env.kindOf n = some .local) (hk : X.env.scope.kind = .function) (h : SP X pins (D.gone i) f s) :
    wpAny (model X.prog X.w) X.A (do bindName X.env n .none; unbindBehindTheSuite X.env n pos) (fun _ s' => SP X pins D f s') E s := by
  have go : ∀ {σ' : St} {H' : Hp} {R : Shared → Prop}, Inv X pins σ' H' s → (∀ s', Inv X pins (σ'.set i none) H' s' → R s') → wpAny (model X.prog X.w) X.A (do bindName X.env n .none; unbindBehindTheSuite X.env n pos) (fun _ s' => R s') E s := fun {σ' H' R} J q => by
    obtain ⟨m, hn, hm⟩ := id J.loc
    refine wpAny_nameGoes_keeps hl hn (by rw [hk]; rfl) fun h' v hn' sb => q _ (J.nameGone hN hi hm hn' sb)
  cases f with
  | next => obtain ⟨σ', H', J, q⟩ := h; exact go J fun s' J' => ⟨_, H', J', q⟩
  | brk => obtain ⟨σ', H', J, q⟩ := h; exact go J fun s' J' => ⟨_, H', J', q⟩
  | cont => obtain ⟨σ', H', J, q⟩ := h; exact go J fun s' J' => ⟨_, H', J', q⟩
  | ret u => obtain ⟨v, σ', H', J, r, q⟩ := h; exact go J fun s' J' => ⟨v, _, H', J', r, q⟩
end
end L2
namespace L2
open PySem PySem.Spec PyProof.Rows
section
variable {X : Cx} {pins : List (Addr × Obj)} {σ : St}
end
end L2
namespace L2
open PySem PySem.Spec PyProof.Rows
noncomputable abbrev Bd (n : Nat) (i : Int) : Prop := Builtin.Int.intBits i ≤ n
theorem Bd.of {n : Nat} {i : Int} (h : i.natAbs < 2 ^ n) : Bd n i := intBits_le_iff.mpr h
theorem Bd.lt {n : Nat} {i : Int} (h : Bd n i) : i.natAbs < 2 ^ n := intBits_le_iff.mp h
theorem Bd.mono {m n : Nat} {i : Int} (h : Bd m i) (z : m ≤ n) : Bd n i := Nat.le_trans h z
theorem Bd.le {n : Nat} {i j : Int} (h : Bd n j) (z : i.natAbs ≤ j.natAbs) : Bd n i := intBits_le_of_natAbs z h
theorem Bd.mul {m n : Nat} {i j : Int} (h : Bd m i) (z : Bd n j) : Bd (m + n) (i * j) := intBits_mul_le h z
theorem Bd.add {m n : Nat} {i j : Int} (h : Bd m i) (z : Bd n j) : Bd (max m n + 1) (i + j) := intBits_add_le h z
theorem Bd.neg {m : Nat} {i : Int} (h : Bd m i) : Bd m (-i) := intBits_neg_le h
theorem Bd.log2 {n : Nat} {i : Int} (h : Bd n i) (z : n < 9000) : i.natAbs.log2 < 9000 := by
  by_cases e : i.natAbs = 0
  · rw [e]; decide
  · rw [Nat.log2_lt e]
    exact Nat.lt_of_lt_of_le h.lt (Nat.pow_le_pow_right (by decide) (Nat.le_of_lt z))
section
variable {X : Cx}
theorem op_mulB : OpR X (binaryOp .Mult) (rI (fun i j => Bd 20000 i ∧ Bd 20000 j) fun i j => .int (i * j)) := opI fun _ _ _ _ _ _ _ hc q => mul_int q (IntMulOk.of_le hc.1 hc.2 (by decide))
theorem op_fdivBN : OpR X (binaryOp .FloorDiv) (rI (fun _ j => j ≠ 0 ∧ Bd 8999 j) fun i j => .int (i.fdiv j)) := opI fun i j _ _ _ _ _ hc q =>
  floordiv_int hc.1 q (.inl (PyProof.noPylong_of_log2 (Bd.log2 hc.2 (by decide))))
end
/-! ### greatest divisors -/
theorem gcd_fmod (a b : Int) : Int.gcd b (a.fmod b) = Int.gcd a b := by
  have e := Int.mul_fdiv_add_fmod a b
  apply Nat.dvd_antisymm
  · have h1 := Int.gcd_dvd_left b (a.fmod b)
    have h2 := Int.gcd_dvd_right b (a.fmod b)
    refine Int.dvd_gcd ?_ h1
    have := Int.dvd_add (Int.dvd_mul_of_dvd_left (c := a.fdiv b) h1) h2
    rwa [e] at this
  · have h1 := Int.gcd_dvd_left a b
    have h2 := Int.gcd_dvd_right a b
    refine Int.dvd_gcd h2 ?_
    have e2 : a.fmod b = a - b * a.fdiv b := by omega
    rw [e2]
    exact Int.dvd_sub h1 (Int.dvd_mul_of_dvd_left h2)
theorem fmod_abs (a : Int) {b : Int} (h : b ≠ 0) : (a.fmod b).natAbs < b.natAbs := by
  rcases Int.lt_or_gt_of_ne h with z | z
  · have e := Int.neg_fmod_neg a b
    have h1 := Int.fmod_lt_of_pos (-a) (show 0 < -b by omega)
    have h2 := Int.fmod_nonneg_of_pos (-a) (show 0 < -b by omega)
    omega
  · have h1 := Int.fmod_lt_of_pos a z
    have h2 := Int.fmod_nonneg_of_pos a z
    omega
theorem gcd_zero (a : Int) : (if a < 0 then -a else a) = (Int.gcd a 0 : Int) := by
  rw [Int.gcd_zero_right]
  split <;> omega
/-- in lowest terms -/
noncomputable def frT (t b : Int) : Int := t / (Int.gcd t b : Int)
noncomputable def frB (t b : Int) : Int := b / (Int.gcd t b : Int)
section
variable {t b p q : Int}
theorem fr_t (t b : Int) : frT t b * (Int.gcd t b : Int) = t := Int.ediv_mul_cancel (Int.gcd_dvd_left t b)
theorem fr_b (t b : Int) : frB t b * (Int.gcd t b : Int) = b := Int.ediv_mul_cancel (Int.gcd_dvd_right t b)
theorem gcd_posR (h : 0 < b) : (0 : Int) < (Int.gcd t b : Int) := by
  have := Int.gcd_pos_of_ne_zero_right t (b := b) (by omega)
  omega
theorem frB_pos (h : 0 < b) : 0 < frB t b := by
  have e := fr_b t b
  have g := gcd_posR (t := t) h
  rcases Int.lt_trichotomy (frB t b) 0 with z | z | z
  · have := Int.mul_neg_of_neg_of_pos z g
    omega
  · rw [z] at e
    omega
  · exact z
theorem fr_cop (h : 0 < b) : Int.gcd (frT t b) (frB t b) = 1 := by
  have g := gcd_posR (t := t) h
  have e1 := congrArg Int.natAbs (fr_t t b)
  have e2 := congrArg Int.natAbs (fr_b t b)
  rw [Int.natAbs_mul, Int.natAbs_natCast] at e1 e2
  have e3 : Int.gcd t b = Nat.gcd (frT t b).natAbs (frB t b).natAbs * Int.gcd t b := by
    conv => lhs; unfold Int.gcd
    rw [← e1, ← e2, Nat.gcd_mul_right]
  have : Nat.gcd (frT t b).natAbs (frB t b).natAbs = 1 := by
    have g' : 0 < Int.gcd t b := by omega
    have := Nat.eq_of_mul_eq_mul_right g' (show Nat.gcd (frT t b).natAbs (frB t b).natAbs * Int.gcd t b = 1 * Int.gcd t b by omega)
    exact this
  exact this
theorem fr_cross (t b : Int) : frT t b * b = frB t b * t := by
  have e1 := fr_t t b
  have e2 := fr_b t b
  have a1 : frT t b * b = frT t b * (frB t b * (Int.gcd t b : Int)) := by rw [e2]
  have a2 : frB t b * t = frB t b * (frT t b * (Int.gcd t b : Int)) := by rw [e1]
  rw [a1, a2]
  exact Int.mul_left_comm _ _ _
theorem cop_uniq {p q p' q' : Int} (h1 : Int.gcd p q = 1) (h2 : Int.gcd p' q' = 1) (hq : 0 < q) (hq' : 0 < q') (e : p * q' = q * p') : p = p' ∧ q = q' := by
  have en : p.natAbs * q'.natAbs = q.natAbs * p'.natAbs := by rw [← Int.natAbs_mul, e, Int.natAbs_mul]
  have c1 : Nat.Coprime p.natAbs q.natAbs := h1
  have c2 : Nat.Coprime p'.natAbs q'.natAbs := h2
  have d1 : q.natAbs ∣ q'.natAbs := c1.symm.dvd_of_dvd_mul_left (by rw [en]; exact Nat.dvd_mul_right _ _)
  have d2 : q'.natAbs ∣ q.natAbs := c2.symm.dvd_of_dvd_mul_left (by rw [Nat.mul_comm, ← en]; exact Nat.dvd_mul_left _ _)
  have eq := Nat.dvd_antisymm d1 d2
  have eq' : q = q' := by omega
  subst eq'
  refine ⟨?_, rfl⟩
  rw [Int.mul_comm] at e
  exact Int.eq_of_mul_eq_mul_left (by omega) e
theorem fr_uniq (hb : 0 < b) (hq : 0 < q) (h : Int.gcd p q = 1) (e : p * b = q * t) : p = frT t b ∧ q = frB t b := by
  refine cop_uniq h (fr_cop hb) hq (frB_pos hb) ?_
  have g := gcd_posR (t := t) hb
  have e1 := fr_t t b
  have e2 := fr_b t b
  refine Int.eq_of_mul_eq_mul_right (a := (Int.gcd t b : Int)) (by omega) ?_
  rw [Int.mul_assoc, e2, Int.mul_assoc, e1]
  exact e
theorem fr_self (hq : 0 < b) (h : Int.gcd t b = 1) : frT t b = t ∧ frB t b = b := by
  have := fr_uniq (t := t) (b := b) hq hq h (Int.mul_comm _ _)
  exact ⟨this.1.symm, this.2.symm⟩
theorem Bd.frT {n : Nat} (h : Bd n t) : Bd n (frT t b) := h.le (Int.natAbs_ediv_le_natAbs _ _)
theorem Bd.frB {n : Nat} (h : Bd n b) : Bd n (frB t b) := h.le (Int.natAbs_ediv_le_natAbs _ _)
theorem Bd.gcd {n : Nat} (h : Bd n b) (hb : b ≠ 0) : Bd n (Int.gcd t b : Int) := h.le (by
  rw [Int.natAbs_natCast]
  exact Nat.le_of_dvd (by omega) (Nat.gcd_dvd_right t.natAbs b.natAbs))
end
/-! ### a number of the script, or one made of it -/
noncomputable def cellV (ns : List Int) (k : Nat) (m : Int) : Int :=
  if k < ns.length then ns.getD k 0 % m
  else ((if 0 < ns.length then ns.getD (k % ns.length) 0 % 2147483647 else 5) * 48271 + ((k : Int) + 3) * ((k : Int) + 7) * 69621) % 2147483629 % m
theorem cellV_nn (ns : List Int) (k : Nat) {m : Int} (h : 0 < m) : 0 ≤ cellV ns k m := by
  unfold cellV
  split <;> exact Int.emod_nonneg _ (by omega)
theorem cellV_lt (ns : List Int) (k : Nat) {m : Int} (h : 0 < m) : cellV ns k m < m := by
  unfold cellV
  split <;> exact Int.emod_lt_of_pos _ h
/-- a def that may raise, at what it does not raise for -/
theorem DfE.df {P : Program} {w : World} {K : PySem.W.Frag} {mg : Str → Option Value} {base : Heap} {k : Nat} {x : Str} {ps : List Str} {sp : Sp} (D : DfE P w K mg base k x ps sp) : Df P w K mg base k x ps fun vs H Q _ => sp vs H Q E0 := by
  obtain ⟨f, fd, F, b, hm, kp⟩ := D.ex
  refine ⟨f, fd, ⟨fun vs H Q E h => F.len vs H Q E0 h, fun A outer s H args us vs Q E hr e0 hb hv hs => ?_⟩, b, hm, kp⟩
  refine codeAny_mono (F.run A outer s H args us vs Q E0 hr e0 hb hv hs) fun z s' hq => ?_
  cases z with
  | error e =>
    obtain ⟨x, C, T, H', a0, _, _, _, _, _, _, _, _, _, _, h⟩ := hq
    exact h.elim
  | ok fl => cases fl <;> exact hq
end L2
namespace L2
open PySem PySem.Spec PyProof.Rows
section
variable {X : Cx}
end
/-- the class that a name of the text stands for -/
noncomputable def clsV (mg : Str → Option Value) (x : Str) : Value := (mg x).getD .none
theorem clsV_eq {K : PySem.W.Frag} {mg : Str → Option Value} {x : Str} {C : Addr} (Z : ExcCl K mg x C) : clsV mg x = .ref C := by
  unfold clsV
  rw [Z.mg]
  rfl
theorem exc_mk {K : PySem.W.Frag} {h : Heap} {mg : Str → Option Value} {x : Str} {C : Addr} (X : K.In h) (G : h.Ns mainGlobals mg) (a : PySem.W.nsIn K mainGlobals x = some (some (.ref C)))
    (b : PySem.W.excIn K C vErr "ValueError.__new__" = true) : ExcCl K mg x C := ⟨PySem.W.mg_of X G a, b⟩
theorem hit_mk {K : PySem.W.Frag} {mg : Str → Option Value} {x c : Str} {C C' : Addr} (Z : ExcCl K mg x C) (Y : ExcCl K mg c C') (m : PySem.W.mroIn K C (.ref C') = some true) : Hit K mg c C := ⟨Z.ok, C', Y, m⟩
theorem none_mk {K : PySem.W.Frag} {h : Heap} {mg : Str → Option Value} {x : Str} (X : K.In h) (G : h.Ns mainGlobals mg) (a : PySem.W.nsIn K mainGlobals x = some none) : mg x = none := PySem.W.mg_none_of X G a
/-- a tuple of the module -/
theorem gtup_mk {K : PySem.W.Frag} {h : Heap} {mg : Str → Option Value} {x : Str} {p : Addr} {d : Option Addr} {its : Array Value} {n : Nat} {sl : Array (Option Value)} {xs : List V} (X : K.In h) (G : h.Ns mainGlobals mg) (a : PySem.W.nsIn K mainGlobals x = some (some (.ref p)))
    (l : K.lookup p = some ⟨.type "tuple", d, .seq its n, sl⟩) (hz : its.size ≤ sizeLine) (r : Vals xs its.toList) : ∃ p, mg x = some (.ref p) ∧ ∀ H, SqT K H p xs := ⟨p, PySem.W.mg_of X G a, fun _ => .inr ⟨_, its, n, l, rfl, rfl, hz, r⟩⟩
end L2
namespace L2
open PySem PySem.Spec PyProof.Rows
/-- p / q is t / b in lowest terms -/
noncomputable def IsFr (t b p q : Int) : Prop := 0 < q ∧ Int.gcd p q = 1 ∧ p * b = q * t
theorem IsFr.fr {t b p q : Int} (h : IsFr t b p q) (hb : 0 < b) : p = frT t b ∧ q = frB t b := fr_uniq hb h.1 h.2.1 h.2.2
theorem fdiv_exact {a m : Int} (h : m ∣ a) (hm : m ≠ 0) : a.fdiv m * m = a := by
  obtain ⟨c, rfl⟩ := h
  rw [Int.mul_fdiv_cancel_left c hm, Int.mul_comm]
/-- made by the greatest divisor, with the bottom's sign -/
theorem isFr_made {t b m : Int} (hb : b ≠ 0) (hm : m = if b < 0 then -(Int.gcd t b : Int) else (Int.gcd t b : Int)) : IsFr t b (t.fdiv m) (b.fdiv m) := by
  have g : 0 < Int.gcd t b := Int.gcd_pos_of_ne_zero_right t hb
  have d1 : (Int.gcd t b : Int) ∣ t := Int.gcd_dvd_left t b
  have d2 : (Int.gcd t b : Int) ∣ b := Int.gcd_dvd_right t b
  have hm0 : m ≠ 0 := by rw [hm]; split <;> omega
  have md : ∀ {z : Int}, (Int.gcd t b : Int) ∣ z → m ∣ z := fun {z} h => by
    rw [hm]
    split
    · exact Int.neg_dvd.mpr h
    · exact h
  have e1 := fdiv_exact (md d1) hm0
  have e2 := fdiv_exact (md d2) hm0
  have nm : m.natAbs = Int.gcd t b := by rw [hm]; split <;> omega
  refine ⟨?_, ?_, ?_⟩
  · rcases Int.lt_or_gt_of_ne hb with z | z
    · have hm' : m < 0 := by rw [hm, if_pos z]; omega
      rcases Int.lt_trichotomy (b.fdiv m) 0 with y | y | y
      · have := Int.mul_pos_of_neg_of_neg y hm'
        omega
      · rw [y] at e2; omega
      · exact y
    · have hm' : 0 < m := by rw [hm, if_neg (by omega)]; omega
      rcases Int.lt_trichotomy (b.fdiv m) 0 with y | y | y
      · have := Int.mul_neg_of_neg_of_pos y hm'
        omega
      · rw [y] at e2; omega
      · exact y
  · have a1 := congrArg Int.natAbs e1
    have a2 := congrArg Int.natAbs e2
    rw [Int.natAbs_mul, nm] at a1 a2
    have e3 : Int.gcd t b = Nat.gcd (t.fdiv m).natAbs (b.fdiv m).natAbs * Int.gcd t b := by
      conv => lhs; unfold Int.gcd
      rw [← a1, ← a2, Nat.gcd_mul_right]
    have : Nat.gcd (t.fdiv m).natAbs (b.fdiv m).natAbs = 1 := Nat.eq_of_mul_eq_mul_right g (show Nat.gcd (t.fdiv m).natAbs (b.fdiv m).natAbs * Int.gcd t b = 1 * Int.gcd t b by omega)
    exact this
  · have a1 : t.fdiv m * b = t.fdiv m * (b.fdiv m * m) := by rw [e2]
    have a2 : b.fdiv m * t = b.fdiv m * (t.fdiv m * m) := by rw [e1]
    rw [a1, a2]
    exact Int.mul_left_comm _ _ _
theorem bd_le {i : Int} (h1 : -10000000000000000000000000000000000000000000000000000000000000 ≤ i) (h2 : i ≤ 10000000000000000000000000000000000000000000000000000000000000) : Bd 250 i := Bd.of (by
  have e : (2 : Nat) ^ 250 = 1809251394333065553493296640760748560207343510400633813116524750123642650624 := by decide
  rw [e]
  omega)
theorem p60 : (10 : Int) ^ (60 : Int).toNat = 1000000000000000000000000000000000000000000000000000000000000 := by decide
theorem isDs2 {K : PySem.W.Frag} {H : Hp} (x y : Int) : IsDs K H [.int x, .int y] [.int x, .int y] := .cons (.int _) (.cons (.int _) .nil)
theorem eqv2 (x y : Int) : PyData.eqv (.tuple [.int x, .int y]) (.tuple [.int x, .int y]) = true := SeqAt.eqv_refl _ rfl
end L2
namespace L2
open PySem PySem.Spec PyProof.Rows
section
variable {X : Cx} {K : PySem.W.Frag}
theorem call_isxK (h : X.K = K) : CallR X (.builtin "isinstance") (rIsx K) := h ▸ call_isx
end
end L2
namespace L2
open PySem PySem.Spec PyProof.Rows
section
variable {t b p q p' q' : Int}
end
end L2
namespace L2
open PySem PySem.Spec PyProof.Rows
section
variable {X : Cx}
end
end L2
namespace L2
open PySem PySem.Spec PyProof.Rows
section
variable {X : Cx} {pins : List (Addr × Obj)} {σ : St} {H : Hp} {s : Shared}
/-- a dict is taken as it stands, to be walked -/
theorem Inv.freeze {a : Addr} {kvs : List (Key × V)} {o : Obj} (I : Inv X pins σ H s) (ha : H a = some (.dK kvs)) (e : s.heap.get? a = some o) : Inv X pins σ (upd H a (.frz o (.dK kvs))) s := by
  have ne : ∀ {b : Addr} {u : HO}, H b = some u → u ≠ .dK kvs → b ≠ a := fun {b u} q d z => by
    rw [z, ha] at q
    exact d (Option.some.inj q).symm
  have nn : ∀ {b : Addr}, H b = none → b ≠ a := fun {b} q z => by rw [z, ha] at q; cases q
  refine ⟨I.ok, I.os, I.bare, ⟨I.base.keep, I.base.slot, fun b o' e1 n hx => ?_, I.base.there, fun b xs e1 => ?_, fun b o' u e1 => ?_, fun b ps e1 => ?_⟩, I.loc, I.cell, ?_, fun y c e1 => ?_, fun p hp => ?_, fun b u e1 => ?_, I.len⟩
  · have q := I.base.free b o' e1 n hx
    rw [upd_ne (nn q)]; exact q
  · have q := I.base.tups b xs e1
    rw [upd_ne (ne q (fun z => nomatch z))]; exact q
  · have q := I.base.frzs b o' u e1
    rw [upd_ne (ne q (fun z => nomatch z))]; exact q
  · obtain ⟨more, q⟩ := I.base.tbls b ps e1
    exact ⟨more, by rw [upd_ne (ne q (fun z => nomatch z))]; exact q⟩
  · rw [upd_ne (nn I.free)]; exact I.free
  · rw [upd_ne (nn (I.freeC y c e1))]; exact I.freeC y c e1
  · obtain ⟨a1, a2, a3⟩ := I.pin p hp
    exact ⟨a1, by rw [upd_ne (nn a2)]; exact a2, a3⟩
  · have st : ∀ {b : Addr} {u : HO}, ObjOk X.prog X.w H s.heap b u → ObjOk X.prog X.w (upd H a (.frz o (.dK kvs))) s.heap b u := fun {b u} q =>
      q.stay (fun _ _ _ z => z) (fun c z => by rw [upd_ne (ne z (fun y => nomatch y))]; exact z) fun c xs z => by rw [upd_ne (ne z (fun y => nomatch y))]; exact z
    by_cases hb : b = a
    · subst hb
      rw [upd_same] at e1
      cases e1
      exact ⟨e, st (I.hok b _ ha)⟩
    · rw [upd_ne hb] at e1
      exact st (I.hok b u e1)
end
/-- the keys of the dict at a, frozen as o -/
noncomputable def Itd (a : Addr) (o : Obj) (kvs : List (Key × V)) : It :=
  ⟨fun i H => H a = some (.frz o (.dK kvs)) ∧ i < kvs.length, fun i H x H' => H' = H ∧ ∃ k v, kvs[i]? = some (k, v) ∧ x = kV k, fun i H => H a = some (.frz o (.dK kvs)) ∧ kvs.length ≤ i⟩
theorem KV.len {kvs : List (Key × V)} {vs : List (Key × Value)} (r : KV kvs vs) : kvs.length = vs.length := Paired.length r
theorem KV.at : ∀ {kvs : List (Key × V)} {vs : List (Key × Value)}, KV kvs vs → ∀ {i : Nat} {k : Key} {u : Value}, vs[i]? = some (k, u) → ∃ v, kvs[i]? = some (k, v)
  | _, _, .nil, _, _, _, e => by simp at e
  | _ :: _, _ :: _, .cons r t, 0, k, u, e => by
    simp at e
    subst e
    obtain ⟨rk, rv⟩ := r
    exact ⟨_, by simp; exact Prod.ext rk rfl⟩
  | _ :: _, _ :: _, .cons r t, i + 1, k, u, e => by
    obtain ⟨v, q⟩ := KV.at t (i := i) (k := k) (u := u) (by simpa using e)
    exact ⟨v, by simpa using q⟩
theorem rel_key {P : Program} {w : World} {k : Key} {v : Value} (h : (mixKind P w).is k v = true) : RelV (kV k) v := by
  rcases keyIs_shape (show keyIs k v = true from h) with ⟨i, t, rfl, rfl⟩ | ⟨x, t, rfl, rfl⟩
  · exact ⟨t, rfl⟩
  · exact ⟨t, rfl⟩
/-- the frozen dict, with its epoch -/
theorem Inv.dictAt {X : Cx} {pins : List (Addr × Obj)} {σ : St} {H : Hp} {s : Shared} {a : Addr} {o : Obj} {kvs : List (Key × V)} {es : Array DictEntry} {ep : Nat} (I : Inv X pins σ H s) (ha : H a = some (.frz o (.dK kvs))) (hd : o.data = .dict es ep) :
    ∃ vs, KV kvs vs ∧ s.heap.DictAt (mixKind X.prog X.w) a vs ep := by
  obtain ⟨e, _, _, vs, r, o', es', ep', e', x, d', rest⟩ := I.hok a _ ha
  rw [e] at e'
  cases e'
  rw [hd] at d'
  cases d'
  exact ⟨vs, r, o, es, e, x, hd, rest⟩
theorem turn_dict {P : Program} {w : World} {K : PySem.W.Frag} {tg : Expr} (a it : Addr) (o : Obj) (kvs : List (Key × V)) {es : Array DictEntry} {ep : Nat} (hd : o.data = .dict es ep) : Turn P w K tg (Itd a o kvs) [it] it (fun i h => h.IsKeyIter it a i kvs.length ep) where
  mem := by simp
  obj := fun i h st b hb => by
    have e : b = it := by simpa using hb
    subst e
    obtain ⟨o, e, c, d⟩ := st
    exact ⟨o, e, fun v z => by rw [d] at z; cases z⟩
  keep := fun i h h' st k => st.at fun o e => k it (by simp) o e
  item := by
    intro X hP hw hK hc i pins s σ H E I hf st hg
    subst hP hw hK
    obtain ⟨ha, hi⟩ := hg
    obtain ⟨vs, rv, D⟩ := I.dictAt ha hd
    have hl := rv.len
    obtain ⟨⟨k, u⟩, hu⟩ : ∃ p, vs[i]? = some p := ⟨vs[i]'(by omega), by simp⟩
    obtain ⟨v, hv⟩ := KV.at rv hu
    obtain ⟨f0, f1, f2, f3, f4, f5⟩ := hf it (by simp)
    refine wpAny_pyNext_dict_item (hl ▸ st) D hu fun key h' hkey st' sb => ?_
    have I1 : Inv X pins σ H { s with heap := h' } := I.turned (t' := s.toks) (fun b o hb e => (sb.2 b hb).trans e) f0 f1 f3 f4 f5
    obtain ⟨oi, e, c, d⟩ := id st'
    exact ⟨key, rfl, go_of (s := { s with heap := h' }) e c d (by decide) ⟨kV k, H, I1, rel_key hkey, ⟨rfl, k, v, hv, rfl⟩, hl ▸ st', fun b hb => (hf b hb).1⟩⟩
  done := by
    intro X hP hw hK hc i pins s σ H E I hf st hg
    subst hP hw hK
    obtain ⟨ha, hi⟩ := hg
    obtain ⟨vs, rv, D⟩ := I.dictAt ha hd
    have hl := rv.len
    obtain ⟨f0, f1, f2, f3, f4, f5⟩ := hf it (by simp)
    exact wpAny_pyNext_dict_end (I.ok.hd hc) (hl ▸ st) D (by simp; omega) fun h' eb => ⟨rfl, I.turned (t' := s.toks) (fun b o hb e => eb b o hb e) f0 f1 f3 f4 f5⟩
  self := fun _ _ _ _ _ st h => wpAny_pyIter_keyiter st h
section
variable {X : Cx} {tg : Expr}
/-- for k in d -/
noncomputable def iDict (tl : TE) : TI := fun σ H R => tl σ H fun x H1 => ∃ a kvs, x = .ref a ∧ ((H1 a = some (.dK kvs) ∧ ∀ o, R (Itd a o kvs) (upd H1 a (.frz o (.dK kvs)))) ∨ ∃ o, H1 a = some (.frz o (.dK kvs)) ∧ R (Itd a o kvs) H1)
theorem dict_it {pins : List (Addr × Obj)} {σ : St} {H : Hp} {s : Shared} {R : It → Hp → Prop} {a : Addr} {o : Obj} {kvs : List (Key × V)} (I : Inv X pins σ H s) (ha : H a = some (.frz o (.dK kvs))) (q : R (Itd a o kvs) H) :
    wpAny (model X.prog X.w) X.A (pyIter (.ref a)) (PIE X pins σ tg R) X.xe s := by
  obtain ⟨e, _, hs, vs, r, o', es, ep, e', x, d, rest⟩ := I.hok a _ ha
  rw [e] at e'
  cases e'
  have hl := r.len
  refine wpAny_pyIter_dict (knd := mixKind X.prog X.w) hs ⟨o, es, e, x, d, rest⟩ ?_
  refine ⟨s.heap.objs.size, [s.heap.objs.size], _, _, H, rfl, I.kept (t' := s.toks) fun b o e => Heap.get?_push_of_some _ e, turn_dict a _ o kvs d, ⟨_, Heap.get?_push_size _ rfl, rfl, by rw [hl]; rfl⟩, fun b hb => ?_, q⟩
  have e : b = s.heap.objs.size := by simpa using hb
  subst e
  exact I.fpOk (Nat.le_refl _) (I.hok.fresh (Nat.le_refl _))
theorem pi_dict {l : Expr} {tl : TE} (hl : PE X l tl) : PI X tg l (iDict tl) := by
  intro pins s σ H R I h
  refine thn (hl pins s σ H _ I h) fun v s1 ⟨x, H1, I1, r1, q1⟩ => ?_
  obtain ⟨a, kvs, rfl, h | ⟨o, ha, q⟩⟩ := q1
  · obtain ⟨ha, q⟩ := h
    cases r1
    obtain ⟨ob, e⟩ := (I1.hok a _ ha).there
    exact dict_it (I1.freeze ha e) upd_same (q ob)
  · cases r1
    exact dict_it I1 ha q
end
end L2
namespace L2
open PySem PySem.Spec PyProof.Rows
theorem vals_strs : ∀ {vs : List Value} {ss : List Str}, StrsAre vs ss → Vals (ss.map V.str) vs
  | _, _, .nil => .nil
  | _, _, .cons x t h => .cons ⟨t, rfl⟩ (vals_strs h)
theorem strsAre_of : ∀ {ss : List Str} {us : List Value}, Vals (ss.map V.str) us → StrsAre us ss
  | [], _, .nil => .nil
  | x :: ss, _, .cons ⟨t, e⟩ h => by
    subst e
    exact .cons x t (strsAre_of h)
section
variable {X : Cx}
/-- sorted(l), l a list of strs -/
theorem call_srtS : CallR X (.builtin "sorted") (fun xs H Q => ∃ (p : Addr) (ns : List Str), xs = [.ref p] ∧ SqL X.K H p (ns.map V.str) ∧ ns.length < 64 ∧ ∀ (l : Addr) (ns' : List Str), H l = none → ns'.Perm ns → sortedS ns' = true → Q (.ref l) (upd H l (.lst (ns'.map V.str)))) := by
  intro pins s σ H xs us Q I r h
  obtain ⟨p, ns, rfl, hx, h64, q⟩ := h
  obtain ⟨u, rfl, ru⟩ := vals1 r
  cases ru
  obtain ⟨vs, rv, pl, hz⟩ := I.list hx
  have lv := rv.length
  rw [List.length_map] at lv
  refine sorted_strs pl.isList (strsAre_of rv) (by omega) fun out ns' hi pm so => ?_
  obtain ⟨e, he⟩ := sortedAll_at s.heap vs out
  have fr : H (s.heap.objs.size + 1) = none := I.hok.fresh (Nat.le_succ _)
  have pl' := pm.length_eq
  exact ⟨.ref _, _, I.track (t' := s.toks) (n := e) (its := out.toList) (I.fpOk (Nat.le_succ _) fr) (fun b o _ z => sortedAll_old z) (vals_strs hi) (by rw [List.length_map, sizeLine_eq]; omega) he, rfl, q _ ns' fr pm so⟩
theorem key_vals {P : Program} {w : World} {vs : List (Key × Value)} : ∀ {kvs : List (Key × V)} {acc : List Value}, KV kvs vs → acc.length = kvs.length → (∀ (j : Nat) (v : Value), acc[j]? = some v → ∃ (k : Key) (x : Value), vs[j]? = some (k, x) ∧ (mixKind P w).is k v = true) → Vals (kvs.map fun p => kV p.1) acc := by
  intro kvs acc r hl hs
  have : ∀ (n : Nat) (kvs : List (Key × V)) (acc : List Value), kvs.length = n → acc.length = n → (∀ (j : Nat) (v : Value), acc[j]? = some v → ∃ (k : Key) (x : V), kvs[j]? = some (k, x) ∧ (mixKind P w).is k v = true) → Vals (kvs.map fun p => kV p.1) acc := by
    intro n
    induction n with
    | zero =>
      intro kvs acc h1 h2 _
      rw [List.length_eq_zero_iff] at h1 h2
      subst h1 h2
      exact .nil
    | succ n ih =>
      intro kvs acc h1 h2 hs
      match kvs, acc, h1, h2, hs with
      | (k0, x0) :: kvs, v0 :: acc, h1, h2, hs =>
        obtain ⟨k, x, e, z⟩ := hs 0 v0 rfl
        simp at e
        obtain ⟨rfl, rfl⟩ := e
        exact .cons (rel_key z) (ih kvs acc (by simpa using h1) (by simpa using h2) fun j v e => by simpa using hs (j + 1) v (by simpa using e))
  refine this kvs.length kvs acc rfl hl fun j v e => ?_
  obtain ⟨k, x, h1, h2⟩ := hs j v e
  obtain ⟨y, hy⟩ := KV.at r h1
  exact ⟨k, y, hy, h2⟩
/-- sorted(d), the keys of a dict, strs all -/
theorem call_srtDS (hc : X.calm = true) : CallR X (.builtin "sorted") (fun xs H Q => ∃ (p : Addr) (kvs : List (Key × V)) (ns : List Str), xs = [.ref p] ∧ Rd H p (.dK kvs) ∧ (kvs.map fun q => kV q.1) = ns.map V.str ∧ ns.length < 64 ∧ ∀ (l : Addr) (ns' : List Str), H l = none → ns'.Perm ns → sortedS ns' = true → Q (.ref l) (upd H l (.lst (ns'.map V.str)))) := by
  intro pins s σ H xs us Q I r h
  obtain ⟨p, kvs, ns, rfl, hx, hk, h64, q⟩ := h
  obtain ⟨u, rfl, ru⟩ := vals1 r
  cases ru
  have ho : ObjOk X.prog X.w H s.heap p (.dK kvs) := by
    rcases hx with hx | ⟨o, hx⟩
    · exact I.hok p _ hx
    · exact (I.hok p _ hx).2
  obtain ⟨hz, hs, vs, rv, hD⟩ := ho
  obtain ⟨ep, hat⟩ := hD.dictAt
  have hl := rv.len
  have hkl := congrArg List.length hk
  rw [List.length_map, List.length_map] at hkl
  refine Calls.call_function_entry kind_sorted plain_sorted entry_sorted (args_sorted1 _) ?_
  unfold Builtin.«sorted»
  refine wpAny_bind (m := checkCount "sorted" 1 1 _) (wpAny_pure ?_)
  refine wpAny_bind (PySem.W.kdu_collect (PySem.W.kdl_dict (knd := mixKind X.prog X.w) (kvs := vs) (ep := ep) hs) (I.ok.hd hc) hat (by omega) fun h' tk acc hkeep hacc => ?_)
  have al : acc.toList.length = kvs.length := by rw [Array.length_toList, hacc.1, hl]
  have va := key_vals rv al fun j v e => hacc.2 j v (by rw [← Array.getElem?_toList]; exact e)
  rw [hk] at va
  have I1 := I.kept (t' := tk) hkeep
  refine wpAny_bind (wpAny_newList ?_ (by omega))
  have gD : (h'.push (seqObj "list" acc.toList.toArray 0)).get? h'.objs.size = some (seqObj "list" acc.toList.toArray 0) := Heap.get?_push_size _ rfl
  have fr : H h'.objs.size = none := I1.hok.fresh (Nat.le_refl _)
  refine wpAny_bind (wpAny_holding (wpAny_call_entry slot_list_sort ⟨_, gD, rfl⟩ entry_list_sort (list_sort_treeK strKind_oneLt gD (strsAre_of va).keysOf (fun v₁ v₂ rest e => keyKind_strs (by rw [← e]; exact strsAre_of va)) (by omega) fun st' hp hs => ⟨_, rfl, ?_⟩) (args_list_sort _)))
  obtain ⟨ns', hi, pm, so⟩ := sorted_out_str (strsAre_of va) hp hs
  obtain ⟨e, he⟩ := sortedHeap_at (out := (arrOf st').map (·.2)) gD
  have pl' := pm.length_eq
  refine wpAny_pure ⟨_, rfl, .ref _, _, I1.track (t' := tk) (n := e) (its := ((arrOf st').map (·.2)).toList) (I1.fpOk (Nat.le_refl _) fr) (fun b o hb z => ?_) (vals_strs hi) (by rw [List.length_map, sizeLine_eq]; omega) he, rfl, q _ ns' fr pm so⟩
  have lt := Heap.lt_size z
  rw [sortedHeap_old hb (by rw [size_push']; exact Nat.lt_succ_of_lt lt)]
  exact Heap.get?_push_of_some _ z
end
end L2
namespace L2
open PySem PySem.Spec PyProof.Rows
section
variable {X : Cx}
/-- sum(l), l a list of ints of any size -/
theorem call_sumL (hc : X.calm = true) : CallR X (.builtin "sum") (fun xs H Q => ∃ (p : Addr) (ns : List Int), xs = [.ref p] ∧ SqL X.K H p (ns.map V.int) ∧ Q (.int ns.sum) H) := by
  intro pins s σ H xs us Q I r h
  obtain ⟨p, ns, rfl, hx, q⟩ := h
  obtain ⟨u, rfl, ru⟩ := vals1 r
  cases ru
  obtain ⟨vs, rv, pl, hz⟩ := I.list hx
  have hi := intsAre_of rv
  obtain ⟨ys, e⟩ := hi.allInts.items
  have hns : ns = ys.toList.map (·.1) := by rw [← hi.numsOf, ← nums_intItems, ← e]
  have hl := pl.isList
  rw [e] at hl
  refine sum_intListG (I.ok.hd hc) hl fun h' tk t' hk => ?_
  refine ⟨.int ns.sum, H, I.kept hk, ⟨t', ?_⟩, q⟩
  rw [preSum_eq, List.take_of_length_le (by simp), hns]
/-- max(l), l a list of ints, not empty -/
theorem call_maxL (hc : X.calm = true) : CallR X (.builtin "max") (fun xs H Q => ∃ (p : Addr) (ns : List Int), xs = [.ref p] ∧ SqL X.K H p (ns.map V.int) ∧ 0 < ns.length ∧ ∀ m, m ∈ ns → (∀ a, a ∈ ns → a ≤ m) → Q (.int m) H) := by
  intro pins s σ H xs us Q I r h
  obtain ⟨p, ns, rfl, hx, hne, q⟩ := h
  obtain ⟨u, rfl, ru⟩ := vals1 r
  cases ru
  obtain ⟨vs, rv, pl, hz⟩ := I.list hx
  have hi := intsAre_of rv
  obtain ⟨ys, e⟩ := hi.allInts.items
  have hns : ns = ys.toList.map (·.1) := by rw [← hi.numsOf, ← nums_intItems, ← e]
  have hsz : 0 < ys.size := by
    have h3 := hne
    rw [hns, List.length_map, Array.length_toList] at h3
    exact h3
  have hl := pl.isList
  rw [e] at hl
  refine max_intList (I.ok.hd hc) hl hsz fun v h' tk hv hk => ?_
  obtain ⟨t, rfl⟩ := intItems_at hv
  obtain ⟨h1, h2⟩ := argBest_gt (numAt ys) (ys.size - 1)
  refine ⟨.int _, H, I.kept hk, ⟨t, rfl⟩, q _ ?_ fun a ha => ?_⟩
  · rw [hns, numAt_eq]; exact getD_mem (by rw [List.length_map, Array.length_toList]; omega)
  · rw [hns] at ha
    obtain ⟨j, hj, rfl⟩ := mem_getD ha
    rw [List.length_map, Array.length_toList] at hj
    rw [← numAt_eq]; exact h2 j (by omega)
/-- x * n, n from 0 -/
noncomputable def repS (x : Str) (k : Nat) : Str := ⟨(List.replicate k x.cps).foldl (· ++ ·) #[]⟩
theorem repS_len (x : Str) (k : Nat) : (repS x k).length = x.length * k := by
  have : ∀ (k : Nat) (a : Array Nat), ((List.replicate k x.cps).foldl (· ++ ·) a).size = a.size + x.cps.size * k := by
    intro k
    induction k with
    | zero => intro a; simp
    | succ k ih =>
      intro a
      rw [List.replicate_succ, List.foldl_cons, ih, Array.size_append, Nat.mul_succ]
      omega
  have h := this k #[]
  show ((List.replicate k x.cps).foldl (· ++ ·) #[]).size = x.cps.size * k
  rw [h]
  simp
theorem op_mulS : OpR X (binaryOp .Mult) (fun x y H Q => ∃ z n, x = .str z ∧ y = .int n ∧ 0 ≤ n ∧ n ≤ 1000 ∧ z.length ≤ 1000 ∧ Q (.str (repS z n.toNat)) H) := by
  intro pins s σ H x y v u Q I rx ry h
  obtain ⟨z, n, rfl, rfl, h0, h1, h2, q⟩ := h
  obtain ⟨t, rfl⟩ := rx
  obtain ⟨t', rfl⟩ := ry
  have hm : z.length * n.toNat ≤ 1000 * 1000 := Nat.mul_le_mul h2 (by omega)
  have hs : 1000 * 1000 ≤ sizeLine := by decide
  refine P.mul_str ?_ (fun h3 h4 h5 => ?_) (fun h3 h4 => ?_) ?_
  · rw [decide_eq_false (by omega), decide_eq_false (by omega)]; rfl
  · have e := Int.ediv_mul_le ((2 : Int) ^ 63 - 1) (b := n) (by omega)
    have : (2 : Int) ^ 63 - 1 < ((2 ^ 63 - 1) / n + 1) * n := by
      have := Int.lt_ediv_add_one_mul_self ((2 : Int) ^ 63 - 1) (show 0 < n by omega)
      exact this
    have h6 : ((2 : Int) ^ 63 - 1) / n < z.length := h5
    have h7 : ((2 : Int) ^ 63 - 1) / n + 1 ≤ 1000 := by omega
    have h8 : ((2 ^ 63 - 1) / n + 1) * n ≤ 1000 * 1000 := by
      refine Int.le_trans (Int.mul_le_mul_of_nonneg_right h7 h0) ?_
      exact Int.mul_le_mul_of_nonneg_left h1 (by decide)
    omega
  · show decide (z.length * n.toNat > sizeLine) = false
    exact decide_eq_false (by omega)
  · by_cases h3 : n < 1
    · rw [if_pos h3]
      have e : n = 0 := by omega
      subst e
      exact ⟨by decide, .str (repS z 0), H, I.tok _, ⟨_, rfl⟩, q⟩
    · rw [if_neg h3]
      by_cases h4 : (n == 1 || z.length == 0) = true
      · rw [if_pos h4]
        have e : repS z n.toNat = z := by
          rw [Bool.or_eq_true, beq_iff_eq, beq_iff_eq] at h4
          rcases h4 with h4 | h4
          · subst h4
            show (⟨#[] ++ z.cps⟩ : Str) = z
            simp
          · have l0 := repS_len z n.toNat
            rw [h4, Nat.zero_mul] at l0
            have e1 : (repS z n.toNat).cps = #[] := Array.eq_empty_of_size_eq_zero l0
            have e2 : z.cps = #[] := Array.eq_empty_of_size_eq_zero h4
            cases z
            cases hr : repS _ _
            simp_all
        rw [e] at q
        exact ⟨.str z, H, I, ⟨_, rfl⟩, q⟩
      · rw [if_neg h4]
        refine ⟨?_, .str (repS z n.toNat), H, I.tok _, ⟨_, rfl⟩, q⟩
        have l0 := repS_len z n.toNat
        show (repS z n.toNat).length ≤ sizeLine
        omega
theorem sl_str : SlR X (fun x lo hi H Q => ∃ z, x = .str z ∧ z.length ≤ sizeLine ∧ Q (.str (Txt.slice z lo hi)) H) := by
  intro pins s σ H x v vl vu lo hi sl Q I rx hs pl pu h
  obtain ⟨z, rfl, hz, q⟩ := h
  obtain ⟨t, rfl⟩ := rx
  obtain ⟨o, ho, hc, hd⟩ := hs
  cases pl with
  | none =>
    cases pu with
    | none => exact ⟨"str", _, F.slot_str_getitem.lookup, typeIs_str _ _ _, wpAny_getItem_str_slice (l := none) (u := none) (st := none) ⟨o, ho, hc, hd⟩ rfl (post_val_or_str ⟨Nat.le_trans (Txt.slice_le z _ _) hz, fun t' k => ⟨.str _, H, I.tok _, ⟨_, rfl⟩, q⟩⟩)⟩
    | int j uj => exact ⟨"str", _, F.slot_str_getitem.lookup, typeIs_str _ _ _, wpAny_getItem_str_slice (l := none) (u := some (j, uj)) (st := none) ⟨o, ho, hc, hd⟩ rfl (post_val_or_str ⟨Nat.le_trans (Txt.slice_le z _ _) hz, fun t' k => ⟨.str _, H, I.tok _, ⟨_, rfl⟩, q⟩⟩)⟩
  | int i ui =>
    cases pu with
    | none => exact ⟨"str", _, F.slot_str_getitem.lookup, typeIs_str _ _ _, wpAny_getItem_str_slice (l := some (i, ui)) (u := none) (st := none) ⟨o, ho, hc, hd⟩ rfl (post_val_or_str ⟨Nat.le_trans (Txt.slice_le z _ _) hz, fun t' k => ⟨.str _, H, I.tok _, ⟨_, rfl⟩, q⟩⟩)⟩
    | int j uj => exact ⟨"str", _, F.slot_str_getitem.lookup, typeIs_str _ _ _, wpAny_getItem_str_slice (l := some (i, ui)) (u := some (j, uj)) (st := none) ⟨o, ho, hc, hd⟩ rfl (post_val_or_str ⟨Nat.le_trans (Txt.slice_le z _ _) hz, fun t' k => ⟨.str _, H, I.tok _, ⟨_, rfl⟩, q⟩⟩)⟩
end
end L2
namespace L2
open PySem PySem.Spec PyProof.Rows
section
variable {X : Cx} {K : PySem.W.Frag}
theorem pg_tupK {es : List Expr} {k : Nat} {t : TGs} {n : Nat} {pos : Pos} (hK : X.K = K) (hc : X.calm = true) (h : PGs X es t)
    (hn : (assignEach es X.env).length = n := by rfl) (hst : (assignEach es X.env).findIdx? (·.1) = none := by rfl) : PG X (.Tuple es k pos) (gTup K n t) := hK ▸ pg_tup hc h hn hst
theorem wk_tup2 {n m i j : Nat} (hi : i < n) (hj : j < n) (hij : i ≠ j) : ∀ x σ H R, σ.length = n + m → (∀ (k : Nat), k < n → σ[k]? = some none) → gTup K 2 (gCons (gName i) (gCons (gName j) gNil)) x σ H R →
    gTup K 2 (gCons (gName i) (gCons (gName j) gNil)) x σ H fun σ2 H2 => Wk σ σ2 ∧ R σ2 H2 := by
  intro x σ H R _ h0 h
  obtain ⟨a, xs, e, hq, hl, v, r, e1, v2, r2, e2, e3, h⟩ := h
  refine ⟨a, xs, e, hq, hl, v, r, e1, v2, r2, e2, e3, ⟨by simp, fun k w e' => ?_⟩, h⟩
  by_cases hk : k = i
  · subst hk; rw [h0 _ hi] at e'; cases e'
  · by_cases hk2 : k = j
    · subst hk2; rw [h0 _ hj] at e'; cases e'
    · rw [List.getElem?_set_ne (Ne.symm hk2), List.getElem?_set_ne (Ne.symm hk)]; exact e'
end
end L2
namespace L2
open PySem PySem.Spec PyProof.Rows
/-- small letters all -/
noncomputable def AllL (x : Str) : Prop := ∀ c ∈ x.cps.toList, 97 ≤ c ∧ c ≤ 122
noncomputable def IsNm (x : Str) : Prop := AllL x ∧ 1 ≤ x.length ∧ x.length ≤ 8
theorem AllL.app {x y : Str} (h : AllL x) (h' : AllL y) : AllL (x ++ y) := by
  intro c hc
  have e : (x ++ y).cps.toList = x.cps.toList ++ y.cps.toList := by
    show (x.cps ++ y.cps).toList = _
    simp
  rw [e] at hc
  rcases List.mem_append.mp hc with z | z
  · exact h c z
  · exact h' c z
theorem app_len (x y : Str) : (x ++ y).length = x.length + y.length := by
  show (x.cps ++ y.cps).size = x.cps.size + y.cps.size
  simp
theorem AllL.rep {x : Str} (h : AllL x) (k : Nat) : AllL (repS x k) := by
  have : ∀ (k : Nat) (a : Array Nat), (∀ c ∈ a.toList, 97 ≤ c ∧ c ≤ 122) → ∀ c ∈ ((List.replicate k x.cps).foldl (· ++ ·) a).toList, 97 ≤ c ∧ c ≤ 122 := by
    intro k
    induction k with
    | zero => intro a ha c hc; exact ha c (by simpa using hc)
    | succ k ih =>
      intro a ha
      rw [List.replicate_succ, List.foldl_cons]
      refine ih _ fun c hc => ?_
      rw [Array.toList_append] at hc
      rcases List.mem_append.mp hc with z | z
      · exact ha c z
      · exact h c z
  exact this k #[] (fun c hc => by simp at hc)
theorem AllL.one {c : Nat} (h : 97 ≤ c ∧ c ≤ 122) : AllL ⟨#[c]⟩ := by
  intro d hd
  simp at hd
  subst hd
  exact h
theorem AllL.slice {x : Str} (h : AllL x) (l u : Option Int) : AllL (Txt.slice x l u) := by
  unfold Txt.slice
  split
  · exact h
  · intro c hc
    simp only [List.toList_toArray, List.mem_filterMap] at hc
    obtain ⟨i, _, e⟩ := hc
    exact h c (by
      rw [Array.getElem?_eq_some_iff] at e
      obtain ⟨hi, rfl⟩ := e
      simp)
theorem idx_len (j : Int) (hj : 0 ≤ j) (n : Nat) : Builtin.Str.strSliceIndices none (some j) 1 n = List.range (min j.toNat n) := by
  unfold Builtin.Str.strSliceIndices sliceRange
  have e0 : ¬ j < 0 := by omega
  have c : (if (0 : Int) < max 0 (min j (n : Int)) then (max 0 (min j (n : Int)) - 0 + 1 - 1) / 1 else 0).toNat = min j.toNat n := by
    split
    · rw [Int.ediv_one]; omega
    · omega
  simp only [show (1 : Int) > 0 by decide, if_true, if_neg e0, gt_iff_lt]
  rw [c]
  conv => rhs; rw [← List.map_id (List.range (min j.toNat n))]
  refine List.map_congr_left fun k _ => ?_
  simp
theorem slice_len (x : Str) {j : Int} (hj : 0 ≤ j) : (Txt.slice x none (some j)).length = min j.toNat x.length := by
  unfold Txt.slice
  rw [idx_len j hj]
  split
  · rename_i h
    simp only [beq_self_eq_true, Bool.true_and, beq_iff_eq, List.length_range] at h
    exact h.symm
  · show ((List.filterMap (fun i => x.cps[i]?) (List.range (min j.toNat x.length))).toArray).size = _
    rw [List.size_toArray]
    have : ∀ m, m ≤ x.cps.size → (List.filterMap (fun i => x.cps[i]?) (List.range m)).length = m := by
      intro m
      induction m with
      | zero => intro _; rfl
      | succ m ih =>
        intro h
        rw [List.range_succ, List.filterMap_append, List.length_append, ih (by omega)]
        have e : x.cps[m]? = some (x.cps[m]'(by omega)) := Array.getElem?_eq_getElem (by omega)
        simp [e]
    exact this _ (Nat.min_le_right _ _)
/-- a letter of the alphabet, by its place -/
theorem letter_at {i : Int} (h0 : 0 ≤ i) (h1 : i < 26) : ∃ c : Nat, atI ("abcdefghijklmnopqrstuvwxyz" : Str).cps.toList i = some c ∧ 97 ≤ c ∧ c ≤ 122 := by
  obtain ⟨n, rfl⟩ : ∃ n : Nat, i = n := ⟨i.toNat, by omega⟩
  have hn : n < 26 := by omega
  have hl : ("abcdefghijklmnopqrstuvwxyz" : Str).cps.toList = (List.range 26).map (· + 97) := by decide +kernel
  rw [hl]
  exact ⟨n + 97, atI_nat (by simp [hn]), by omega, by omega⟩
end L2
namespace L2
open PySem PySem.Spec PyProof.Rows
/-- the view d.values() -/
noncomputable def ValO (v d : Addr) : HO := .ext fun h => h.IsValuesView v d
section
variable {X : Cx}
noncomputable def rValues : V → List V → Hp → VK → Prop := fun x vs H Q => ∃ d kvs, x = .ref d ∧ vs = [] ∧ H d = some (.dK kvs) ∧ ∀ v, H v = none → Q (.ref v) (upd H v (ValO v d))
theorem mt_values : MtM X "dict.values" rValues := by
  intro pins s σ H x vs v us Q I rx rv h
  obtain ⟨d, kvs, rfl, rfl, hd, q⟩ := h
  cases rx
  have hus := rv.zero
  subst hus
  obtain ⟨hz, hs, ws, rw', hD⟩ := I.hok d _ hd
  refine call_meetsIn F.slot_dict_values hD.typeIs F.entry_dict_values (F.args_dict_values_1 _) (meets_dict_values (mixKind X.prog X.w) d hs) ⟨⟨ws, hD⟩, ?_⟩
  refine ⟨.ref s.heap.objs.size, _, I.laid (t' := s.toks) (o := ValO s.heap.objs.size d) (fun b ob z => Heap.get?_push_of_some _ z) (Nat.le_refl _) ?_, rfl, q _ (I.hok.fresh (Nat.le_refl _))⟩
  refine ⟨⟨_, Heap.get?_push_size _ rfl, rfl, rfl⟩, ⟨_, Heap.get?_push_size _ rfl⟩, fun h1 h2 ⟨o, e, c, dd⟩ k => ⟨o, k o e, c, dd⟩⟩
theorem vals_of {vs : List (Key × Value)} : ∀ {kvs : List (Key × V)}, KV kvs vs → Vals (kvs.map (·.2)) (vs.map (·.2)) := by
  intro kvs r
  induction r with
  | nil => exact .nil
  | cons a _ ih => exact .cons a.2 ih
/-- list(d.values()) -/
theorem call_listV (hc : X.calm = true) : CallR X (.type "list") (fun xs H Q => ∃ v d kvs, xs = [.ref v] ∧ H v = some (ValO v d) ∧ Rd H d (.dK kvs) ∧ ∀ l, H l = none → Q (.ref l) (upd H l (.lst (kvs.map (·.2))))) := by
  intro pins s σ H xs us Q I r h
  obtain ⟨v, d, kvs, rfl, hv, hx, q⟩ := h
  obtain ⟨u, rfl, ru⟩ := vals1 r
  cases ru
  have ho : ObjOk X.prog X.w H s.heap d (.dK kvs) := by
    rcases hx with hx | ⟨o, hx⟩
    · exact I.hok d _ hx
    · exact (I.hok d _ hx).2
  obtain ⟨hz, hs, ws, rv, hD⟩ := ho
  obtain ⟨ep, hat⟩ := hD.dictAt
  have hl := rv.len
  have hvw : s.heap.IsValuesView v d := (I.hok v _ hv).1
  refine PySem.W.kdl_call (PySem.W.kdl_values (knd := mixKind X.prog X.w) (kvs := ws) (ep := ep)) (I.ok.hd hc) ⟨hvw, hat⟩ (by omega) fun h' tk acc c' hk hS hacc => ?_
  have al : acc.toList.length = ws.length := by rw [Array.length_toList, hacc.1]
  have e : acc.toList = ws.map (·.2) := PySem.W.kdl_vals_eq acc.toList al fun j u hu => hacc.2 j u (by rw [← Array.getElem?_toList]; exact hu)
  refine ⟨.ref s.heap.objs.size, _, I.laid (t' := tk) (o := .lst (kvs.map (·.2))) hk (Nat.le_refl _) ⟨by rw [List.length_map]; exact hz, acc.toList, c', by rw [e]; exact vals_of rv, by simpa using hS⟩, rfl, q _ (I.hok.fresh (Nat.le_refl _))⟩
end
end L2
namespace L2
open PySem PySem.Spec PyProof.Rows
section
variable {P : Program} {w : World} {K : PySem.W.Frag} {mg : Str → Option Value} {base : Heap}
end
section
variable {X : Cx}
end
end L2
namespace L2
open PySem PySem.Spec PyProof.Rows
section
variable {X : Cx}
end
end L2
namespace L2
open PySem PySem.Spec PyProof.Rows
/-- names with their fractions -/
noncomputable abbrev Sh := List (Str × Int × Int)
noncomputable def shE (p : Str × Int × Int) : PyData := .tuple [.str p.1, .tuple [.int p.2.1, .int p.2.2]]
noncomputable def shD (S : Sh) : PyData := .tuple (S.map shE)
noncomputable def ShE (K : PySem.W.Frag) (H : Hp) (v : V) (p : Str × Int × Int) : Prop := ∃ r q, v = .ref r ∧ SqT K H r [.str p.1, .ref q] ∧ SqT K H q [.int p.2.1, .int p.2.2]
noncomputable def ShT (K : PySem.W.Frag) (H : Hp) (a : Addr) (S : Sh) : Prop := ∃ vs, SqT K H a vs ∧ Paired (ShE K H) vs S
/-- tuples stay -/
noncomputable def TK (H H' : Hp) : Prop := (∀ a xs, H a = some (.tup xs) → H' a = some (.tup xs)) ∧ ∀ a o xs, H a = some (.frz o (.tup xs)) → H' a = some (.frz o (.tup xs))
theorem Same.tk {H H' : Hp} (s : Same H H') : TK H H' := ⟨fun _ _ e => s _ _ e, fun _ _ _ e => s _ _ e⟩
theorem TK.trans {H H1 H2 : Hp} (a : TK H H1) (b : TK H1 H2) : TK H H2 := ⟨fun x y e => b.1 x y (a.1 x y e), fun x o y e => b.2 x o y (a.2 x o y e)⟩
theorem TK.refl (H : Hp) : TK H H := ⟨fun _ _ e => e, fun _ _ _ e => e⟩
theorem TK.lst {H : Hp} {D : Addr} {xs : List V} {o : HO} (hD : H D = some (.lst xs)) : TK H (upd H D o) :=
  ⟨fun _ _ e => by rw [upd_ne (ne_of e hD (fun z => nomatch z))]; exact e, fun _ _ _ e => by rw [upd_ne (ne_of e hD (fun z => nomatch z))]; exact e⟩
theorem TK.dK {H : Hp} {D : Addr} {xs : List (Key × V)} {o : HO} (hD : H D = some (.dK xs)) : TK H (upd H D o) :=
  ⟨fun _ _ e => by rw [upd_ne (ne_of e hD (fun z => nomatch z))]; exact e, fun _ _ _ e => by rw [upd_ne (ne_of e hD (fun z => nomatch z))]; exact e⟩
theorem TK.sq {K : PySem.W.Frag} {H H' : Hp} {a : Addr} {xs : List V} (t : TK H H') (h : SqT K H a xs) : SqT K H' a xs := by
  rcases h with (h | ⟨o, h⟩) | h
  · exact .inl (.inl (t.1 _ _ h))
  · exact .inl (.inr ⟨o, t.2 _ _ _ h⟩)
  · exact .inr h
theorem Paired.imp {α β : Type} {R R' : α → β → Prop} (h : ∀ x y, R x y → R' x y) : ∀ {xs : List α} {ys : List β}, Paired R xs ys → Paired R' xs ys
  | _, _, .nil => .nil
  | _, _, .cons a b => .cons (h _ _ a) (Paired.imp h b)
theorem ShE.tk {K : PySem.W.Frag} {H H' : Hp} {v : V} {p : Str × Int × Int} (s : TK H H') (h : ShE K H v p) : ShE K H' v p := by
  obtain ⟨r, q, e, h1, h2⟩ := h
  exact ⟨r, q, e, s.sq h1, s.sq h2⟩
theorem ShE.same {K : PySem.W.Frag} {H H' : Hp} {v : V} {p : Str × Int × Int} (s : Same H H') (h : ShE K H v p) : ShE K H' v p := h.tk s.tk
theorem ShT.tk {K : PySem.W.Frag} {H H' : Hp} {a : Addr} {S : Sh} (s : TK H H') (h : ShT K H a S) : ShT K H' a S := by
  obtain ⟨vs, e, r⟩ := h
  exact ⟨vs, s.sq e, Paired.imp (fun _ _ => ShE.tk s) r⟩
theorem ShT.same {K : PySem.W.Frag} {H H' : Hp} {a : Addr} {S : Sh} (s : Same H H') (h : ShT K H a S) : ShT K H' a S := h.tk s.tk
theorem shE_isD {K : PySem.W.Frag} {H : Hp} {v : V} {p : Str × Int × Int} (h : ShE K H v p) : IsD K H (shE p) v := by
  obtain ⟨r, q, rfl, h1, h2⟩ := h
  exact .tup h1 (.cons (.str _) (.cons (.tup h2 (isDs2 _ _)) .nil))
theorem shs_isDs {K : PySem.W.Frag} {H : Hp} : ∀ {vs : List V} {S : Sh}, Paired (ShE K H) vs S → IsDs K H (S.map shE) vs
  | _, _, .nil => .nil
  | _, _, .cons a b => .cons (shE_isD a) (shs_isDs b)
theorem ShT.isD {K : PySem.W.Frag} {H : Hp} {a : Addr} {S : Sh} (h : ShT K H a S) : IsD K H (shD S) (.ref a) := by
  obtain ⟨vs, e, r⟩ := h
  exact .tup e (shs_isDs r)
theorem lay_shs : ∀ (S : Sh), (∀ p ∈ S, PyData.canLay0 (.str p.1) = true) → PyData.canLayAll0 (S.map shE) = true
  | [], _ => rfl
  | p :: S, h => by
    have h1 := h p (List.mem_cons_self ..)
    have h2 := lay_shs S fun q hq => h q (List.mem_cons_of_mem _ hq)
    show (PyData.canLay0 (shE p) && PyData.canLayAll0 (S.map shE)) = true
    rw [h2, Bool.and_true]
    show (PyData.canLay0 (.str p.1) && true) = true
    rw [h1]
    rfl
theorem lay_sh {S : Sh} (h : ∀ p ∈ S, PyData.canLay0 (.str p.1) = true) : (shD S).canLay0 = true := lay_shs S h
theorem dep_shs : ∀ (S : Sh), PyData.depthAll (S.map shE) ≤ 3
  | [] => by show (0 : Nat) ≤ 3; decide
  | p :: S => by
    have h := dep_shs S
    have h2 : (shE p).depth ≤ 3 := by show (2 : Nat) ≤ 3; decide
    show max _ _ ≤ 3
    exact Nat.max_le.mpr ⟨h2, h⟩
theorem AllL.lay {x : Str} (h : AllL x) : PyData.canLay0 (.str x) = true := by
  show x.cps.all (· < 0x110000) = true
  rw [← Array.all_toList, List.all_eq_true]
  intro c hc
  have := h c hc
  exact decide_eq_true (by omega)
theorem ShT.len {K : PySem.W.Frag} {H : Hp} {a : Addr} {S : Sh} {vs : List V} (r : Paired (ShE K H) vs S) : vs.length = S.length := Paired.length r
theorem paired_at {α β : Type} {R : α → β → Prop} : ∀ {xs : List α} {ys : List β} {i : Nat} {x : α}, Paired R xs ys → xs[i]? = some x → ∃ y, ys[i]? = some y ∧ R x y
  | _, _, _, _, .nil, e => by simp at e
  | _, _, 0, _, .cons a _, e => by simp at e; subst e; exact ⟨_, rfl, a⟩
  | _, _, i + 1, x, .cons _ b, e => by
    obtain ⟨y, h1, h2⟩ := paired_at (i := i) (x := x) b (by simpa using e)
    exact ⟨y, by simpa using h1, h2⟩
theorem kit_ss (K : PySem.W.Frag) : PySem.W.kitOne K (.type "str") (.type "str") = some true := by kernel_rfl
end L2
namespace L2
open PySem PySem.Spec PyProof.Rows
/-- weights by names -/
noncomputable abbrev Ws := List (Str × Int)
noncomputable def wsK (ws : Ws) : List (Key × V) := ws.map fun p => (Sum.inr p.1, V.int p.2)
noncomputable def putW (ws : Ws) (x : Str) (n : Int) : Ws := if (ws.any fun p => decide (p.1 = x)) = true then ws.map (fun p => if p.1 = x then (p.1, n) else p) else ws ++ [(x, n)]
noncomputable def totW (ws : Ws) : Int := (ws.map (·.2)).sum
noncomputable def wOf (ws : Ws) (x : Str) : Int := ((ws.find? fun p => decide (p.1 = x)).map (·.2)).getD 0
theorem key_dec (a b : Str) : decide ((Sum.inr a : Key) = Sum.inr b) = decide (a = b) := key_rr a b
theorem put_ws (ws : Ws) (x : Str) (n : Int) : putK (wsK ws) (Sum.inr x) (.int n) = wsK (putW ws x n) := by
  have e : ((wsK ws).any fun kv => decide (kv.1 = (Sum.inr x : Key))) = ws.any fun p => decide (p.1 = x) := by
    unfold wsK
    rw [List.any_map]
    congr 1
    funext p
    exact key_dec _ _
  unfold putK putW
  rw [e]
  split
  · unfold wsK
    rw [List.map_map, List.map_map]
    refine List.map_congr_left fun p _ => ?_
    show (if (Sum.inr p.1 : Key) = Sum.inr x then ((Sum.inr p.1 : Key), V.int n) else (Sum.inr p.1, V.int p.2)) = _
    by_cases h : p.1 = x
    · rw [if_pos (by rw [h])]
      simp [h]
    · rw [if_neg (fun z => h (Sum.inr.inj z))]
      simp [h]
  · unfold wsK
    rw [List.map_append]
    rfl
theorem val_ws (ws : Ws) (x : Str) : valV (wsK ws) (Sum.inr x) = ((ws.find? fun p => decide (p.1 = x)).map fun p => V.int p.2) := by
  induction ws with
  | nil => rfl
  | cons p ws ih =>
    by_cases h : p.1 = x
    · rw [show wsK (p :: ws) = (Sum.inr p.1, V.int p.2) :: wsK ws from rfl, valV_pos (by rw [h])]
      simp [List.find?_cons, h]
    · rw [show wsK (p :: ws) = (Sum.inr p.1, V.int p.2) :: wsK ws from rfl, valV_neg (fun z => h (Sum.inr.inj z)), ih]
      simp [List.find?_cons, h]
theorem val_in {ws : Ws} {x : Str} (h : x ∈ ws.map (·.1)) : valV (wsK ws) (Sum.inr x) = some (.int (wOf ws x)) ∧ ∃ p ∈ ws, p.1 = x ∧ p.2 = wOf ws x := by
  rw [val_ws]
  unfold wOf
  cases e : ws.find? fun p => decide (p.1 = x) with
  | none =>
    obtain ⟨p, hp, rfl⟩ := List.mem_map.mp h
    have := List.find?_eq_none.mp e p hp
    simp at this
  | some p =>
    have h1 := List.find?_some e
    exact ⟨rfl, p, List.mem_of_find?_eq_some e, of_decide_eq_true h1, rfl⟩
structure WsOk (N : Int) (ws : Ws) : Prop where
  nd : (ws.map (·.1)).Nodup
  ok : ∀ p ∈ ws, IsNm p.1 ∧ 0 < p.2 ∧ p.2 ≤ N
theorem putW_names (ws : Ws) (x : Str) (n : Int) : (putW ws x n).map (·.1) = if x ∈ ws.map (·.1) then ws.map (·.1) else ws.map (·.1) ++ [x] := by
  unfold putW
  have e : (ws.any fun p => decide (p.1 = x)) = true ↔ x ∈ ws.map (·.1) := by
    rw [List.any_eq_true, List.mem_map]
    constructor
    · rintro ⟨p, hp, h⟩; exact ⟨p, hp, of_decide_eq_true h⟩
    · rintro ⟨p, hp, h⟩; exact ⟨p, hp, decide_eq_true h⟩
  by_cases h : x ∈ ws.map (·.1)
  · rw [if_pos (e.mpr h), if_pos h, List.map_map]
    refine List.map_congr_left fun p _ => ?_
    show (if p.1 = x then (p.1, n) else p).1 = p.1
    split <;> rfl
  · rw [if_neg (fun z => h (e.mp z)), if_neg h, List.map_append]
    rfl
theorem WsOk.put {N : Int} {ws : Ws} (h : WsOk N ws) {x : Str} {n : Int} (hx : IsNm x) (h0 : 0 < n) (h1 : n ≤ N) : WsOk N (putW ws x n) := by
  refine ⟨?_, fun p hp => ?_⟩
  · rw [putW_names]
    split
    · exact h.nd
    · rename_i z
      rw [List.nodup_append]
      exact ⟨h.nd, by simp, fun a ha b hb e => z (by rw [List.mem_singleton] at hb; rw [← hb, ← e]; exact ha)⟩
  · unfold putW at hp
    split at hp
    · obtain ⟨q, hq, rfl⟩ := List.mem_map.mp hp
      split
      · exact ⟨(h.ok q hq).1, h0, h1⟩
      · exact h.ok q hq
    · rcases List.mem_append.mp hp with z | z
      · exact h.ok p z
      · rw [List.mem_singleton] at z
        subst z
        exact ⟨hx, h0, h1⟩
theorem putW_len (ws : Ws) (x : Str) (n : Int) : 1 ≤ (putW ws x n).length ∧ (putW ws x n).length ≤ ws.length + 1 := by
  have e : (putW ws x n).length = ((putW ws x n).map (·.1)).length := (List.length_map ..).symm
  rw [e, putW_names]
  split
  · rename_i h
    have := List.length_pos_of_mem h
    rw [List.length_map] at this ⊢
    omega
  · rw [List.length_append, List.length_map]
    simp
theorem totW_le {N : Int} {ws : Ws} (h : ∀ p ∈ ws, 0 < p.2 ∧ p.2 ≤ N) : (ws.length : Int) ≤ totW ws ∧ totW ws ≤ N * ws.length := by
  unfold totW
  induction ws with
  | nil => simp
  | cons p ws ih =>
    obtain ⟨a, b⟩ := ih fun q hq => h q (List.mem_cons_of_mem _ hq)
    obtain ⟨c, d⟩ := h p (List.mem_cons_self ..)
    rw [List.map_cons, List.sum_cons, List.length_cons]
    have e : N * ((ws.length + 1 : Nat) : Int) = N * ws.length + N := by
      rw [Int.natCast_add, Int.mul_add]
      simp
    rw [e]
    omega
/-- the shares that weights make -/
noncomputable def ownS (ws : Ws) (ss : List Str) : Sh := ss.map fun x => (x, frT (wOf ws x) (totW ws), frB (wOf ws x) (totW ws))
structure Owned (N : Int) (S : Sh) : Prop where
  ex : ∃ ws ss, WsOk N ws ∧ (1 ≤ ws.length ∧ ws.length ≤ 7) ∧ ss.Perm (ws.map (·.1)) ∧ sortedS ss = true ∧ S = ownS ws ss
theorem Paired.app {α β : Type} {R : α → β → Prop} : ∀ {xs xs' : List α} {ys ys' : List β}, Paired R xs ys → Paired R xs' ys' → Paired R (xs ++ xs') (ys ++ ys')
  | _, _, _, _, .nil, h => h
  | _, _, _, _, .cons a b, h => .cons a (Paired.app b h)
end L2
namespace L2
theorem frT_pos {t b : Int} (ht : 0 < t) (hb : 0 < b) : 0 < frT t b := by
  have e := fr_t t b
  have g := gcd_posR (t := t) hb
  rcases Int.lt_trichotomy (frT t b) 0 with z | z | z
  · have := Int.mul_neg_of_neg_of_pos z g
    omega
  · rw [z] at e
    omega
  · exact z
end L2
/-! ### the divisor of the program -/
theorem abs_nn (a : Int) : 0 ≤ (if a < 0 then -a else a) := by split <;> omega
theorem gcd_abs (a b : Int) : Int.gcd (if a < 0 then -a else a) (if b < 0 then -b else b) = Int.gcd a b := by
  split <;> split <;> simp
/-! ### dict(pairs) -/
namespace PySem

noncomputable def AttrErr (h h' : Heap) (e : Addr) : Prop := (∀ b ob, h.get? b = some ob → h'.get? b = some ob) ∧ ∃ oe, h'.get? e = some oe ∧ oe.cls = .type "AttributeError"
namespace F
theorem sub_attr : isSubtype (.type "AttributeError") (.type "AttributeError") = pure true := by rw [isSubtype_type]; kernel_rfl
end F
theorem raiseAttr_new {M : Model} {A : Around} {E : Value → Shared → Prop} {s : Shared} {α : Type} {v : Value} {name msg : Str} {Q : α → Shared → Prop} (hh : A.handled = none) (hm : msg.length ≤ sizeLine)
    (h : ∀ h' tk e, AttrErr s.heap h' e → E (.ref e) { s with heap := h', toks := tk }) : wpAny M A (raiseAttrError v name msg : Sem α) Q E s := by
  unfold raiseAttrError
  refine wpAny_bind (wpAny_mkStr (wpAny_bind ?_) hm)
  unfold newExc newTuple
  refine wpAny_bind (wpAny_newObj_type ?_ (by size_fits))
  refine wpAny_bind (m := firstArgMember _ _) (wpAny_of_eq (a := Value.none) (by simp only [firstArgMember]; kernel_rfl) ?_)
  rw [show ∀ l, ownMembersOf (.type "AttributeError") l = #[unsetMember, unsetMember] from fun _ => rfl]
  refine wpAny_newObj_type ?_ (by size_fits)
  refine wpAny_bind (wpAny_mkText ?_)
  unfold noteAttr
  refine wpAny_bind ?_
  dsimp only
  unfold lacksNameAndObj
  dsimp only
  refine wpAny_bind (wpAny_bind (wpAny_isInstance (T := "AttributeError") (b := true) ⟨_, Heap.get?_push_size _ rfl, rfl⟩ F.sub_attr ?_))
  simp only [Bool.not_true, Bool.false_eq_true, if_false]
  refine wpAny_bind (wpAny_load (Heap.get?_push_size _ rfl) ?_)
  show wpAny M A (pure true) _ _ _
  refine wpAny_pure ?_
  rw [if_pos rfl]
  refine wpAny_bind (wpAny_rule ?_)
  refine wpAny_bind (wpAny_typeOf (T := "AttributeError") ⟨_, Heap.get?_push_size _ rfl, rfl⟩ ?_)
  dsimp only
  refine wpAny_layMembers (Heap.get?_push_size _ rfl) rfl ?_
  unfold raiseNew
  refine wpAny_bind (wpAny_handled ?_)
  rw [hh]
  refine wpAny_bind (wpAny_pure (wpAny_throw ?_))
  refine h _ _ _ ⟨fun b ob hb => ?_, _, Heap.get?_update_self _ (Heap.get?_push_size _ rfl) (Obj.isFreed_of_fields (Obj.data_mapFields rfl _)), Obj.cls_mapFields _ _⟩
  rw [Heap.get?_update_other _ _ (Nat.ne_of_gt (Nat.lt_of_lt_of_le (Heap.lt_size hb) (by simp)))]
  exact Heap.get?_push_of_some _ (Heap.get?_push_of_some _ hb)
namespace F
theorem lk_tuple_keys : typeLookup (.type "tuple") "keys" = pure none := by rw [typeLookup_type, builtinLookup_eq_fast]; kernel_rfl
theorem lk_tuple_getattr : typeLookup (.type "tuple") "__getattr__" = pure none := by rw [typeLookup_type, builtinLookup_eq_fast]; kernel_rfl
end F
section
variable {prog : Program} {w : World} {A : Around} {E : Value → Shared → Prop} {h : Heap} {g : Array GenState} {d : Drawn} {t : Nat} {os : OsState} {a : Addr} {o : Obj}
theorem keys_entry_tuple {tk : Tok} {Q : Fin → Shared → Prop} (hh : A.handled = none) (hx : h.get? a = some o) (hc : o.cls = .type "tuple") {its : Array Value} {n : Nat} (hd : o.data = .seq its n) (hn : o.dict = none)
    (hq : ∀ h' t' e, AttrErr h h' e → E (.ref e) ⟨h', g, d, t', os⟩) :
    wpAny (model prog w) A (Builtin.«object.__getattribute__» ⟨[.ref a, .str "keys" tk], []⟩) Q E ⟨h, g, d, t, os⟩ := by
  have hT : (⟨h, g, d, t, os⟩ : Shared).TypeIs (.ref a) "tuple" := ⟨_, hx, hc⟩
  have f4 := F.lk_tuple_keys
  have f5 := F.lk_tuple_getattr
  repeat (any_goals (first | assumption | wp_step))
  rw [hd]
  dsimp only
  repeat (any_goals (first | assumption | wp_step))
  rw [hc, hn]
  dsimp only
  repeat (any_goals (first | assumption | wp_step))
  exact raiseAttr_new hh (by decide +kernel) hq
theorem keys_call_tuple {tk : Tok} {R : Result → Shared → Prop} (hh : A.handled = none) (hx : h.get? a = some o) (hc : o.cls = .type "tuple") {its : Array Value} {n : Nat} (hd : o.data = .seq its n) (hn : o.dict = none)
    (hq : ∀ h' t' e, AttrErr h h' e → R (.error (.ref e)) ⟨h', g, d, t', os⟩) :
    codeAny (model prog w) A (.call (.builtin "tuple.__getattribute__") ⟨[.ref a, .str "keys" tk], []⟩) R ⟨h, g, d, t, os⟩ :=
  codeAny_call_builtin F.slot_tuple_getattribute.plain F.entry_tuple_ga (F.slot_tuple_getattribute.check _ _ _ _ _ _ _ _ (show (⟨h, g, d, t, os⟩ : Shared).TypeIs (.ref a) "tuple" from ⟨_, hx, hc⟩) (F.args_tuple_getattribute_2 _ _)
    (keys_entry_tuple (by simpa using hh) hx hc hd hn hq))
theorem keys_by_tuple {tk : Tok} {Q : Value → Shared → Prop} (hh : A.handled = none) (hx : h.get? a = some o) (hc : o.cls = .type "tuple") {its : Array Value} {n : Nat} (hd : o.data = .seq its n) (hn : o.dict = none)
    (hq : ∀ h' t' e, AttrErr h h' e → E (.ref e) ⟨h', g, d, t', os⟩) : wpAny (model prog w) A (getAttrBy (.ref a) (.str "keys" tk) false) Q E ⟨h, g, d, t, os⟩ := by
  have hT : (⟨h, g, d, t, os⟩ : Shared).TypeIs (.ref a) "tuple" := ⟨_, hx, hc⟩
  have f2 := F.slot_tuple_getattribute.lookup
  have f3 := F.slot_tuple_getattribute.bind (.ref a)
  have f5 := F.lk_tuple_getattr
  repeat (any_goals (first | assumption | wp_step))
  refine keys_call_tuple hh hx hc hd hn fun h' t' e he => ?_
  obtain ⟨oe, ho, hce⟩ := he.2
  have hTe : (⟨h', g, d, t', os⟩ : Shared).TypeIs (.ref e) "AttributeError" := ⟨_, ho, hce⟩
  have f6 := F.sub_attr
  have hq' := hq h' t' e he
  repeat (any_goals (first | assumption | wp_step))
theorem keys_attr_tuple {Q : Option Value → Shared → Prop} (hh : A.handled = none) (hx : h.get? a = some o) (hc : o.cls = .type "tuple") {its : Array Value} {n : Nat} (hd : o.data = .seq its n) (hn : o.dict = none)
    (hq : ∀ h' t', (∀ b ob, h.get? b = some ob → h'.get? b = some ob) → Q none ⟨h', g, d, t', os⟩) : wpAny (model prog w) A (getAttr? (.ref a) "keys") Q E ⟨h, g, d, t, os⟩ := by
  unfold getAttr? getAttrBy?
  refine wpAny_bind (wpAny_mkText ?_)
  refine wpAny_bind (wpAny_attempt (keys_by_tuple hh hx hc hd hn fun h' t' e he => ?_))
  obtain ⟨oe, ho, hce⟩ := he.2
  dsimp only
  refine wpAny_bind (wpAny_isInstance (T := "AttributeError") (b := true) ⟨_, ho, hce⟩ F.sub_attr ?_)
  rw [if_pos rfl]
  exact wpAny_pure (hq _ _ he.1)
end
section
variable {prog : Program} {w : World} {K : Type} [DecidableEq K] {knd : KeyKind prog w K} {A : Around} {E : Value → Shared → Prop} {s : Shared}
namespace F
theorem plain_update_loop : plainId "dict.update.loop" = true := by decide +kernel
theorem entry_update_loop : entryFor table "dict.update.loop" = some Builtin.«dict.update.loop» := entryFor_of_fast (by kernel_rfl)
end F
open PyProof.Rows in
/-- the pairs of a tuple go into a dict one by one -/
theorem code_update_loop {R : Result → Shared → Prop} (hh : A.handled = none) {a it D : Addr} {its : Array Value} {kvs : List (K × Value)} (hlen : its.size = kvs.length) (hz : kvs.length ≤ sizeLine) (hne1 : a ≠ it) (hne2 : D ≠ it) (hne3 : a ≠ D)
    (hp : ∀ (i : Nat) (k : K) (u : Value), kvs[i]? = some (k, u) → ∃ p key, its[i]? = some (.ref p) ∧ IsTup s.heap p #[key, u] ∧ knd.is k key = true ∧ p ≠ it ∧ p ≠ D) :
    ∀ (m i : Nat) (s1 : Shared), kvs.length - i = m → i ≤ kvs.length → IsTupIter s1.heap it a i → IsTup s1.heap a its → s1.heap.DictOf knd D (merged [] (kvs.take i)) →
    (∀ b ob, b ≠ D → b ≠ it → s.heap.get? b = some ob → s1.heap.get? b = some ob) →
    (∀ h' tk, h'.DictOf knd D (merged [] kvs) → (∀ b ob, b ≠ D → b ≠ it → s.heap.get? b = some ob → h'.get? b = some ob) → R (.ok (.ret .none)) { s1 with heap := h', toks := tk }) →
    codeAny (model prog w) A (.builtin "dict.update.loop" ⟨[.ref D, .ref it, rawInt i, .none], []⟩) R s1 := by
  intro m
  induction m with
  | zero =>
    intro i s1 hk hi hit ht hD keep hR
    have hin : i = kvs.length := by omega
    subst hin
    refine codeAny_builtin F.entry_update_loop ?_
    rw [Around.under_plainId F.plain_update_loop _]
    show wpAny _ A.in1 (pyNext (.ref it) >>= _) _ _ s1
    refine wpAny_bind (next_tuple_end (by simpa using hh) hit ht (by simp [hlen]) fun h' hx => ?_)
    show wpAny (model prog w) A.in1 (Builtin.Dict.addKeywords D [] >>= fun _ => ret Value.none) _ _ _
    refine wpAny_bind (wpAny_pure (wpAny_pure ?_))
    rw [List.take_length] at hD
    exact hR h' _ (hD.extBut hx hne2) fun b ob h1 h2 e => hx b ob h2 (keep b ob h1 h2 e)
  | succ m ih =>
    intro i s1 hk hi hit ht hD keep hR
    have hlt : i < kvs.length := by omega
    obtain ⟨⟨k, u⟩, hkv⟩ : ∃ kv, kvs[i]? = some kv := ⟨kvs[i], by simp [hlt]⟩
    obtain ⟨p, key, hi1, hp1, hkey, hpi, hpD⟩ := hp i k u hkv
    refine codeAny_builtin F.entry_update_loop ?_
    rw [Around.under_plainId F.plain_update_loop _]
    show wpAny _ A.in1 (pyNext (.ref it) >>= _) _ _ s1
    refine wpAny_bind (next_tuple_item hit ht hi1 fun h' hit' hs' => ?_)
    have keep' : ∀ b ob, b ≠ D → b ≠ it → s.heap.get? b = some ob → h'.get? b = some ob := fun b ob h1 h2 e => (hs'.2 b h2).trans (keep b ob h1 h2 e)
    obtain ⟨po, hpo, hpc, pn, hpd⟩ := hp1
    have hpo' := keep' p po hpD hpi hpo
    dsimp only
    refine wpAny_bind (wpAny_holding ?_)
    refine wpAny_bind (wpAny_tryCatch ?_)
    unfold Builtin.Dict.pairItems
    refine wpAny_bind (wpAny_typeOf (T := "tuple") ⟨po, hpo', hpc⟩ ?_)
    rw [if_pos (by decide)]
    refine wpAny_bind (wpAny_seqItems hpo' hpd (wpAny_pure ?_))
    show wpAny (model prog w) A.in1 (holding [key, u] (dictSet D key u)) _ _ _
    refine wpAny_holding (wpAny_dictSet_pairs (hsz := by
      have e1 := merged_length_le ([] : List (K × Value)) (kvs.take i)
      rw [List.length_nil, List.length_take] at e1
      omega) hkey (hD.sameBut hs' hne2) fun h2 hD2 hs2 => ?_)
    refine wpAny_pure ⟨plainId_quiet F.plain_update_loop _, ?_⟩
    have e2 : rawInt (↑i + 1) = rawInt ((i + 1 : Nat) : Int) := rfl
    rw [e2]
    refine ih (i + 1) _ (by omega) (by omega) ?_ ?_ ?_ (fun b ob h1 h2' e => (hs2.2 b h1).trans (keep' b ob h1 h2' e)) fun h3 tk3 => hR h3 tk3
    · obtain ⟨oi, hoi, r⟩ := hit'
      exact ⟨oi, (hs2.2 it (Ne.symm hne2)).trans hoi, r⟩
    · obtain ⟨oa, hoa, r⟩ := ht
      exact ⟨oa, (hs2.2 a hne3).trans ((hs'.2 a hne1).trans hoa), r⟩
    · rw [merged_take_succ [] kvs i (k, u) hkv]
      exact hD2
open PyProof.Rows in
theorem call_dict_pairs {Q : Value → Shared → Prop} (hh : A.handled = none) {a : Addr} {o : Obj} {its : Array Value} {n : Nat} {kvs : List (K × Value)} (hx : s.heap.get? a = some o) (hc : o.cls = .type "tuple") (hd : o.data = .seq its n) (hn : o.dict = none) (hlen : its.size = kvs.length) (hz : kvs.length ≤ sizeLine)
    (hp : ∀ (i : Nat) (k : K) (u : Value), kvs[i]? = some (k, u) → ∃ p key, its[i]? = some (.ref p) ∧ IsTup s.heap p #[key, u] ∧ knd.is k key = true)
    (h : ∀ h' tk, h'.DictOf knd s.heap.objs.size (merged [] kvs) → (∀ b ob, s.heap.get? b = some ob → h'.get? b = some ob) → Q (.ref s.heap.objs.size) { s with heap := h', toks := tk }) :
    wpAny (model prog w) A (call (.type "dict") [.ref a]) Q E s := by
  refine callType_codes (Q₁ := fun obj s₁ => obj = .ref s.heap.objs.size ∧ s₁ = { s with heap := s.heap.push { cls := .type "dict", data := .dict #[] } }) F.kt_called_dict (F.kt_typeCall_dict_1 _) F.entry_dict_init (kt_code_dict_new _ ⟨rfl, rfl⟩) ?_
  rintro obj s₁ ⟨rfl, rfl⟩
  have hnew : (s.heap.push { cls := .type "dict", data := .dict #[] }).DictOf knd s.heap.objs.size [] := Heap.DictOf.new s.heap
  have hx' := Heap.get?_push_of_some { cls := .type "dict", data := .dict #[] } hx
  refine ⟨hnew.typeIs, F.args_dict_init_2 _ _, ?_⟩
  unfold Builtin.«dict.__init__»
  refine wpAny_bind ?_
  unfold Builtin.Dict.selfAndRest
  refine wpAny_bind (wpAny_notOrdered_dict hnew.typeIs ?_)
  show wpAny _ _ (pure (s.heap.objs.size, [Value.ref a])) _ _ _
  refine wpAny_pure ?_
  show wpAny _ _ (Builtin.Dict.updateFrom "dict.__init__" s.heap.objs.size (.ref a) [] .none) _ _ _
  unfold Builtin.Dict.updateFrom
  refine wpAny_bind (wpAny_typeOf (T := "tuple") ⟨o, hx', hc⟩ ?_)
  rw [if_pos (by decide)]
  refine wpAny_bind (keys_attr_tuple (by simpa using hh) hx' hc hd hn fun h1 t1 k1 => ?_)
  rw [if_pos (show (none : Option Value).isNone = true from rfl)]
  refine wpAny_bind (wpAny_rule ?_)
  have ht1 : IsTup h1 a its := ⟨o, k1 _ _ hx', hc, n, hd⟩
  refine wpAny_bind (iter_tuple ht1 ?_)
  have hs0 : s.heap.objs.size < h1.objs.size := by
    obtain ⟨ob, es, ep, hob, _⟩ := hnew
    exact Heap.lt_size (k1 _ _ hob)
  have ha := Heap.lt_size hx
  have ne1 : a ≠ h1.objs.size := Nat.ne_of_lt (Nat.lt_trans ha hs0)
  have ne2 : s.heap.objs.size ≠ h1.objs.size := Nat.ne_of_lt hs0
  have ne3 : a ≠ s.heap.objs.size := Nat.ne_of_lt ha
  refine wpAny_pure ⟨plainId_quiet F.plain_update_loop _, ?_⟩
  refine code_update_loop (knd := knd) (s := { s with heap := h1.push { cls := .type "tuple_iterator", data := .fields #[.ref a, .int 0 0] } }) (by simpa using hh) hlen hz ne1 ne2 ne3 ?_ kvs.length 0 _ rfl (Nat.zero_le _) ⟨_, Heap.get?_push_size _ rfl, rfl, rfl⟩ (ht1.push _) ?_ (fun b ob _ _ e => e) fun h' tk hD keep => ⟨rfl, h h' tk hD fun b ob e => ?_⟩
  · intro i k u e
    obtain ⟨p, key, h1', h2, h3⟩ := hp i k u e
    have lp := h2.lt
    exact ⟨p, key, h1', (h2.keeps fun b ob e => k1 _ _ (Heap.get?_push_of_some _ e)).push _, h3, Nat.ne_of_lt (Nat.lt_trans lp hs0), Nat.ne_of_lt lp⟩
  · exact (hnew.keep k1).push _
  · have lb := Heap.lt_size e
    exact keep b ob (Nat.ne_of_lt lb) (Nat.ne_of_lt (Nat.lt_trans lb hs0)) (Heap.get?_push_of_some _ (k1 _ _ (Heap.get?_push_of_some _ e)))
end
end PySem
namespace L2
open PySem PySem.Spec PyProof.Rows
/-- a tuple's object, without a dict of its own -/
noncomputable def PlainT (o : Obj) : Prop := o.cls = .type "tuple" ∧ o.dict = none ∧ ∃ its n, o.data = .seq its n
/-- shares, in a tuple that dict() may read -/
noncomputable def ShF (K : PySem.W.Frag) (H : Hp) (a : Addr) (S : Sh) : Prop := ∃ o vs, PlainT o ∧ H a = some (.frz o (.tup vs)) ∧ Paired (ShE K H) vs S
theorem ShF.t {K : PySem.W.Frag} {H : Hp} {a : Addr} {S : Sh} (h : ShF K H a S) : ShT K H a S := by
  obtain ⟨o, vs, _, e, r⟩ := h
  exact ⟨vs, .inl (.inr ⟨o, e⟩), r⟩
theorem ShF.tk {K : PySem.W.Frag} {H H' : Hp} {a : Addr} {S : Sh} (s : TK H H') (h : ShF K H a S) : ShF K H' a S := by
  obtain ⟨o, vs, p, e, r⟩ := h
  exact ⟨o, vs, p, s.2 _ _ _ e, Paired.imp (fun _ _ => ShE.tk s) r⟩
section
variable {X : Cx}
theorem call_tupF : CallR X (.type "tuple") (fun xs H Q => ∃ p ys, xs = [.ref p] ∧ SqL X.K H p ys ∧ ∀ l o, H l = none → PlainT o → Q (.ref l) (upd H l (.frz o (.tup ys)))) := by
  intro pins s σ H xs us Q I r h
  obtain ⟨p, ys, rfl, hq, q⟩ := h
  obtain ⟨u, rfl, rx⟩ := vals1 r
  cases rx
  obtain ⟨its, r', pl, hz⟩ := I.list hq
  have hlen := r'.length
  refine call_tuple_list pl.isList (fun h' kp => ?_) (by simp only [List.size_toArray] <;> omega)
  have I1 : Inv X pins σ H { s with heap := h' } := I.kept (t' := s.toks) kp
  have I2 : Inv X pins σ (upd H h'.objs.size (.frz { cls := .type "tuple", data := .seq its.toArray } (.tup ys))) { s with heap := h'.push { cls := .type "tuple", data := .seq its.toArray } } :=
    I1.laid (t' := s.toks) (fun b o e => Heap.get?_push_of_some _ e) (Nat.le_refl _) (show ObjOk X.prog X.w _ _ _ (.frz _ (.tup ys)) from ⟨Heap.get?_push_size _ rfl, hz, its, r', IsTup.new _ _⟩)
  exact ⟨.ref h'.objs.size, _, I2, rfl, q _ _ (I1.hok.fresh (Nat.le_refl _)) ⟨rfl, rfl, _, _, rfl⟩⟩
/-- dict(shares) -/
noncomputable def rDictP (K : PySem.W.Frag) : List V → Hp → VK → Prop := fun xs H Q => ∃ a o vs kvs, xs = [.ref a] ∧ PlainT o ∧ H a = some (.frz o (.tup vs)) ∧
  Paired (fun v (kv : Key × V) => ∃ r, v = .ref r ∧ SqT K H r [kV kv.1, kv.2]) vs kvs ∧ ∀ l, H l = none → Q (.ref l) (upd H l (.dK (mergeK [] kvs)))
theorem call_dictP (hc : X.calm = true) : CallR X (.type "dict") (rDictP X.K) := by
  intro pins s σ H xs us Q I r h
  obtain ⟨a, o, vs, kvs, rfl, ⟨p1, p2, its, n, p3⟩, ha, pr, q⟩ := h
  obtain ⟨u, rfl, rx⟩ := vals1 r
  cases rx
  obtain ⟨ho, hz, its', rv, o', ho', _, n', hd'⟩ := I.hok a _ ha
  rw [ho] at ho'
  cases ho'
  rw [p3] at hd'
  injection hd' with e1 e2
  subst e1
  -- the values of the pairs
  have key : ∀ {vs : List V} {us : List Value} {kvs : List (Key × V)}, Vals vs us → Paired (fun v (kv : Key × V) => ∃ r, v = .ref r ∧ SqT X.K H r [kV kv.1, kv.2]) vs kvs →
      ∃ ws : List (Key × Value), KV kvs ws ∧ us.length = ws.length ∧ ∀ (i : Nat) (k : Key) (u : Value), ws[i]? = some (k, u) → ∃ p key, us[i]? = some (.ref p) ∧ IsTup s.heap p #[key, u] ∧ (mixKind X.prog X.w).is k key = true := by
    intro vs us kvs rv pr
    induction pr generalizing us with
    | nil =>
      have := rv.zero
      subst this
      exact ⟨[], .nil, rfl, fun i k u e => by simp at e⟩
    | @cons v kv vs' kvs' hv pt ih =>
      obtain ⟨r, rfl, hr⟩ := hv
      cases rv with
      | @cons _ w1 _ us' r1 r2 =>
        cases r1
        obtain ⟨ws, k1, k2, k3⟩ := ih r2
        obtain ⟨its2, rv2, pl2, _⟩ := I.tuple hr
        obtain ⟨y1, y2, rfl, q1, q2⟩ := vals2 rv2
        refine ⟨(kv.1, y2) :: ws, .cons ⟨rfl, q2⟩ k1, by simp [k2], fun i k u e => ?_⟩
        cases i with
        | zero =>
          simp at e
          obtain ⟨rfl, rfl⟩ := e
          exact ⟨r, y1, rfl, pl2, kV_is q1⟩
        | succ i =>
          obtain ⟨p, key, e1, e2⟩ := k3 i k u (by simpa using e)
          exact ⟨p, key, by simpa using e1, e2⟩
  obtain ⟨ws, k1, k2, k3⟩ := key rv pr
  have hlen := rv.length
  have l2 := KV.len k1
  refine call_dict_pairs (knd := mixKind X.prog X.w) (kvs := ws) (I.ok.hd hc) ho p1 p3 p2 (by simpa using k2) (by omega) (fun i k u e => ?_) fun h' tk hD keep => ?_
  · obtain ⟨p, key, e1, e2⟩ := k3 i k u e
    exact ⟨p, key, by simpa using e1, e2⟩
  · refine ⟨.ref s.heap.objs.size, _, I.laid (t' := tk) (o := .dK (mergeK [] kvs)) keep (Nat.le_refl _) (dk_new ?_ (beq_eq_false_iff_ne.mpr (Ne.symm (Nat.ne_of_lt I.big))) (k1.merge .nil) hD), rfl, q _ (I.hok.fresh (Nat.le_refl _))⟩
    have h1 := length_mergeK kvs []
    rw [List.length_nil] at h1
    omega
end
end L2
namespace L2
open PySem PySem.Spec PyProof.Rows
section
variable {X : Cx}
theorem bools_at {bs : List Bool} {its : List Value} (rv : Vals (bs.map V.bl) its) {i : Nat} {v : Value} (h : its[i]? = some v) : ∃ b, bs[i]? = some b ∧ v = .bool b := by
  have hl := rv.length
  rw [List.length_map] at hl
  have hi : i < bs.length := by
    rcases Nat.lt_or_ge i its.length with z | z
    · omega
    · rw [List.getElem?_eq_none z] at h; cases h
  obtain ⟨b, hb⟩ : ∃ b, bs[i]? = some b := ⟨bs[i], by simp [hi]⟩
  obtain ⟨u, h1, h2⟩ := Vals.get rv (i := i) (x := .bl b) (by rw [List.getElem?_map, hb]; rfl)
  rw [h] at h1
  cases h1
  exact ⟨b, hb, h2⟩
theorem range_any (bs : List Bool) : ((List.range bs.length).any fun i => bs.getD i false) = bs.any id := by
  rw [Bool.eq_iff_iff, List.any_eq_true, List.any_eq_true]
  constructor
  · rintro ⟨i, hi, h⟩
    have hi := List.mem_range.mp hi
    refine ⟨bs[i], List.getElem_mem hi, ?_⟩
    simpa [List.getD, hi] using h
  · rintro ⟨b, hb, h⟩
    obtain ⟨i, hi, rfl⟩ := List.getElem_of_mem hb
    exact ⟨i, List.mem_range.mpr hi, by simpa [List.getD, hi] using h⟩
theorem range_all (bs : List Bool) : ((List.range bs.length).all fun i => bs.getD i false) = bs.all id := by
  rw [Bool.eq_iff_iff, List.all_eq_true, List.all_eq_true]
  constructor
  · intro h b hb
    obtain ⟨i, hi, rfl⟩ := List.getElem_of_mem hb
    have := h i (List.mem_range.mpr hi)
    simpa [List.getD, hi] using this
  · intro h i hi
    have hi := List.mem_range.mp hi
    have := h bs[i] (List.getElem_mem hi)
    simpa [List.getD, hi] using this
noncomputable def rAny : List V → Hp → VK → Prop := fun xs H Q => ∃ (p : Addr) (bs : List Bool), xs = [.ref p] ∧ Rd H p (.lst (bs.map V.bl)) ∧ Q (.bl (bs.any id)) H
noncomputable def rAll : List V → Hp → VK → Prop := fun xs H Q => ∃ (p : Addr) (bs : List Bool), xs = [.ref p] ∧ Rd H p (.lst (bs.map V.bl)) ∧ Q (.bl (bs.all id)) H
theorem call_anyL (hc : X.calm = true) : CallR X (.builtin "any") rAny := by
  intro pins s σ H xs us Q I r h
  obtain ⟨p, bs, rfl, hx, q⟩ := h
  obtain ⟨u, rfl, ru⟩ := vals1 r
  cases ru
  obtain ⟨its, rv, pl, hz⟩ := I.list (.inl hx : SqL X.K H p _)
  have hl := rv.length
  rw [List.length_map] at hl
  have hI := pl.isList
  have hlt : p < s.heap.objs.size := by obtain ⟨_, e, _⟩ := hI; exact Heap.lt_size e
  have hne : p ≠ s.heap.objs.size := Nat.ne_of_lt hlt
  refine call_any_walk (wpAny_pyIter_list hI ?_)
  refine ⟨_, _, _, _, _, _, fun i => bs.getD i false, rfl, Walks.list (A := X.A.in1) (I.ok.hd hc) _ p hne its.toArray, ⟨⟨_, Heap.get?_push_size _ rfl, rfl, rfl⟩, hI.push _⟩, ?_, fun h' tk hk => ?_⟩
  · intro i v s Q E hv hq
    obtain ⟨b, hb, rfl⟩ := bools_at rv (by simpa using hv)
    have e : bs.getD i false = b := by simp [List.getD, hb]
    have hq' : Q (bs.getD i false) s := hq
    rw [e] at hq'
    exact wpAny_pure hq'
  · rw [List.size_toArray, ← hl, range_any]
    exact ⟨.bl _, H, I.kept (old_kept hk), rfl, q⟩
theorem call_allL (hc : X.calm = true) : CallR X (.builtin "all") rAll := by
  intro pins s σ H xs us Q I r h
  obtain ⟨p, bs, rfl, hx, q⟩ := h
  obtain ⟨u, rfl, ru⟩ := vals1 r
  cases ru
  obtain ⟨its, rv, pl, hz⟩ := I.list (.inl hx : SqL X.K H p _)
  have hl := rv.length
  rw [List.length_map] at hl
  have hI := pl.isList
  have hlt : p < s.heap.objs.size := by obtain ⟨_, e, _⟩ := hI; exact Heap.lt_size e
  have hne : p ≠ s.heap.objs.size := Nat.ne_of_lt hlt
  refine call_all_walk (wpAny_pyIter_list hI ?_)
  refine ⟨_, _, _, _, _, _, fun i => bs.getD i false, rfl, Walks.list (A := X.A.in1) (I.ok.hd hc) _ p hne its.toArray, ⟨⟨_, Heap.get?_push_size _ rfl, rfl, rfl⟩, hI.push _⟩, ?_, fun h' tk hk => ?_⟩
  · intro i v s Q E hv hq
    obtain ⟨b, hb, rfl⟩ := bools_at rv (by simpa using hv)
    have e : bs.getD i false = b := by simp [List.getD, hb]
    have hq' : Q (bs.getD i false) s := hq
    rw [e] at hq'
    exact wpAny_pure hq'
  · rw [List.size_toArray, ← hl, range_all]
    exact ⟨.bl _, H, I.kept (old_kept hk), rfl, q⟩
/-- isinstance(x, c) where x is a tuple that may be read -/
noncomputable def rIsT (K : PySem.W.Frag) : List V → Hp → VK → Prop := fun xs H Q => ∃ (x c : V) (a : Addr) (ys : List V) (b : Bool) (cv : Value), xs = [x, c] ∧ x = .ref a ∧ SqT K H a ys ∧ RelV c cv ∧ (∀ u, RelV c u → u = cv) ∧ PySem.W.kitOne K (.type "tuple") cv = some b ∧ Q (.bl b) H
theorem call_isT : CallR X (.builtin "isinstance") (rIsT X.K) := by
  intro pins s σ H xs us Q I r h
  obtain ⟨x, c, a, ys, b, cv, rfl, rfl, hx, rc, uc, e, q⟩ := h
  obtain ⟨u1, u2, rfl, r1, r2⟩ := vals2 r
  cases r1
  obtain rfl := uc u2 r2
  obtain ⟨its, rv, ⟨o, h1, h2, _⟩, hz⟩ := I.tuple hx
  exact PySem.W.kia_one PySem.W.kitx_tuple I.kIn ⟨o, h1, h2⟩ e (fun z => nomatch z) fun tk => ⟨.bl b, H, I.tok _, rfl, q⟩
end
/-! ### a dict of shares -/
noncomputable def shAt (S : Sh) (x : Str) : Int × Int := ((S.find? fun p => decide (p.1 = x)).map (·.2)).getD (0, 1)
noncomputable def putS (S : Sh) (x : Str) (f : Int × Int) : Sh := if (S.any fun p => decide (p.1 = x)) = true then S.map (fun p => if p.1 = x then (p.1, f) else p) else S ++ [(x, f)]
noncomputable def ShV (K : PySem.W.Frag) (H : Hp) (kv : Key × V) (p : Str × Int × Int) : Prop := kv.1 = Sum.inr p.1 ∧ ∃ q, kv.2 = .ref q ∧ SqT K H q [.int p.2.1, .int p.2.2]
noncomputable def ShD (K : PySem.W.Frag) (H : Hp) (d : Addr) (S : Sh) : Prop := ∃ kvs, H d = some (.dK kvs) ∧ Paired (ShV K H) kvs S
theorem ShV.tk {K : PySem.W.Frag} {H H' : Hp} {kv : Key × V} {p : Str × Int × Int} (t : TK H H') (h : ShV K H kv p) : ShV K H' kv p := by
  obtain ⟨e, q, e2, h2⟩ := h
  exact ⟨e, q, e2, t.sq h2⟩
theorem ShD.same {K : PySem.W.Frag} {H H' : Hp} {d : Addr} {S : Sh} (s : Same H H') (h : ShD K H d S) : ShD K H' d S := by
  obtain ⟨kvs, e, r⟩ := h
  exact ⟨kvs, s _ _ e, Paired.imp (fun _ _ => ShV.tk s.tk) r⟩
/-- all stays but what is at d -/
noncomputable def SameX (d : Addr) (H H' : Hp) : Prop := ∀ b o, b ≠ d → H b = some o → H' b = some o
theorem SameX.tk {d : Addr} {H H' : Hp} {kvs : List (Key × V)} (s : SameX d H H') (h : H d = some (.dK kvs)) : TK H H' :=
  ⟨fun _ _ e => s _ _ (ne_of e h (fun z => nomatch z)) e, fun _ _ _ e => s _ _ (ne_of e h (fun z => nomatch z)) e⟩
theorem SameX.upd {d : Addr} {H : Hp} {o : HO} : SameX d H (upd H d o) := fun b u n e => by rw [upd_ne n]; exact e
theorem SameX.trans {d : Addr} {H H1 H2 : Hp} (a : SameX d H H1) (b : SameX d H1 H2) : SameX d H H2 := fun c o n e => b c o n (a c o n e)
theorem Same.x {d : Addr} {H H' : Hp} (a : Same H H') : SameX d H H' := fun c o _ e => a c o e
section
variable {K : PySem.W.Frag} {H : Hp}
theorem dec_inr (a b : Str) : decide ((Sum.inr a : Key) = Sum.inr b) = decide (a = b) := key_rr a b
theorem shv_val {x : Str} : ∀ {kvs : List (Key × V)} {S : Sh}, Paired (ShV K H) kvs S →
    (valV kvs (Sum.inr x) = none ∧ S.find? (fun p => decide (p.1 = x)) = none) ∨ ∃ q p, valV kvs (Sum.inr x) = some (.ref q) ∧ S.find? (fun p => decide (p.1 = x)) = some p ∧ SqT K H q [.int p.2.1, .int p.2.2]
  | _, _, .nil => .inl ⟨rfl, rfl⟩
  | _, _, @Paired.cons _ _ _ kv p _ _ a b => by
    obtain ⟨e, q, e2, h2⟩ := a
    by_cases h : p.1 = x
    · refine .inr ⟨q, p, ?_, ?_, h2⟩
      · rw [valV_pos (by rw [e, h]), e2]
      · rw [List.find?_cons, decide_eq_true h]
    · have hk : ¬ kv.1 = Sum.inr x := fun z => h (Sum.inr.inj (e.symm.trans z))
      rw [valV_neg hk, List.find?_cons, decide_eq_false h]
      exact shv_val b
theorem shv_any {x : Str} : ∀ {kvs : List (Key × V)} {S : Sh}, Paired (ShV K H) kvs S → (kvs.any fun kv => decide (kv.1 = Sum.inr x)) = S.any fun p => decide (p.1 = x)
  | _, _, .nil => rfl
  | _, _, @Paired.cons _ _ _ kv p _ _ a b => by
    rw [List.any_cons, List.any_cons, shv_any b, a.1, dec_inr]
theorem shv_map {x : Str} {q : Addr} {t b : Int} (hq : SqT K H q [.int t, .int b]) : ∀ {kvs : List (Key × V)} {S : Sh}, Paired (ShV K H) kvs S → Paired (ShV K H) (kvs.map fun kv => if kv.1 = Sum.inr x then (kv.1, .ref q) else kv) (S.map fun p => if p.1 = x then (p.1, (t, b)) else p)
  | _, _, .nil => .nil
  | _, _, @Paired.cons _ _ _ kv p _ _ a r => by
    rw [List.map_cons, List.map_cons]
    refine .cons ?_ (shv_map hq r)
    by_cases h : p.1 = x
    · rw [if_pos h, if_pos (by rw [a.1, h])]
      exact ⟨a.1, q, rfl, hq⟩
    · rw [if_neg h, if_neg (fun z => h (Sum.inr.inj (a.1.symm.trans z)))]
      exact a
theorem shv_put {x : Str} {q : Addr} {t b : Int} (hq : SqT K H q [.int t, .int b]) {kvs : List (Key × V)} {S : Sh} (r : Paired (ShV K H) kvs S) : Paired (ShV K H) (putK kvs (Sum.inr x) (.ref q)) (putS S x (t, b)) := by
  unfold putK putS
  rw [shv_any r]
  split
  · exact shv_map hq r
  · exact Paired.app r (.cons ⟨rfl, q, rfl, hq⟩ .nil)
theorem shv_names : ∀ {kvs : List (Key × V)} {S : Sh}, Paired (ShV K H) kvs S → (kvs.map fun p => kV p.1) = (S.map (·.1)).map V.str
  | _, _, .nil => rfl
  | _, _, @Paired.cons _ _ _ kv p _ _ a b => by
    rw [List.map_cons, List.map_cons, List.map_cons, shv_names b, a.1]
    rfl
theorem shv_keys : ∀ {kvs : List (Key × V)} {S : Sh}, Paired (ShV K H) kvs S → kvs.map (·.1) = (S.map (·.1)).map Sum.inr
  | _, _, .nil => rfl
  | _, _, .cons a b => by
    rw [List.map_cons, List.map_cons, List.map_cons, shv_keys b, a.1]
theorem mergeK_snoc : ∀ (more acc : List (Key × V)), ((acc ++ more).map (·.1)).Nodup → mergeK acc more = acc ++ more
  | [], acc, _ => by unfold mergeK; simp
  | kv :: more, acc, h => by
    have hn : ¬ (acc.any fun p => decide (p.1 = kv.1)) = true := by
      rw [List.any_eq_true]
      rintro ⟨p, hp, e⟩
      rw [List.map_append, List.nodup_append] at h
      exact h.2.2 p.1 (List.mem_map_of_mem hp) kv.1 (by simp) (of_decide_eq_true e)
    have e : mergeK acc (kv :: more) = mergeK (acc ++ [kv]) more := by
      unfold mergeK
      rw [List.foldl_cons]
      congr 1
      unfold putK
      rw [if_neg hn]
    rw [e, mergeK_snoc more (acc ++ [kv]) (by simpa using h)]
    simp
theorem mergeK_nil {kvs : List (Key × V)} (h : (kvs.map (·.1)).Nodup) : mergeK [] kvs = kvs := mergeK_snoc kvs [] h
theorem nodup_inr {l : List Str} (h : l.Nodup) : (l.map (Sum.inr : Str → Key)).Nodup := by
  induction l with
  | nil => exact List.nodup_nil
  | cons a l ih =>
    rw [List.nodup_cons] at h
    rw [List.map_cons, List.nodup_cons]
    refine ⟨fun z => h.1 ?_, ih h.2⟩
    obtain ⟨b, hb, e⟩ := List.mem_map.mp z
    rw [← Sum.inr.inj e]
    exact hb
/-- the pairs of shares, as dict() takes them -/
theorem sh_pairs : ∀ {vs : List V} {S : Sh}, Paired (ShE K H) vs S → ∃ kvs, Paired (fun v (kv : Key × V) => ∃ r, v = .ref r ∧ SqT K H r [kV kv.1, kv.2]) vs kvs ∧ Paired (ShV K H) kvs S
  | _, _, .nil => ⟨[], .nil, .nil⟩
  | _, _, @Paired.cons _ _ _ _ p _ _ a b => by
    obtain ⟨kvs, h1, h2⟩ := sh_pairs b
    obtain ⟨r, q, e, hr, hq⟩ := a
    exact ⟨(Sum.inr p.1, .ref q) :: kvs, .cons ⟨r, e, hr⟩ h1, .cons ⟨rfl, q, rfl, hq⟩ h2⟩
end
theorem shAt_nil (x : Str) : shAt [] x = (0, 1) := rfl
theorem shAt_cons (p : Str × Int × Int) (S : Sh) (x : Str) : shAt (p :: S) x = if p.1 = x then p.2 else shAt S x := by
  unfold shAt
  rw [List.find?_cons]
  by_cases h : p.1 = x
  · rw [decide_eq_true h, if_pos h]; rfl
  · rw [decide_eq_false h, if_neg h]
theorem any_iff (S : Sh) (x : Str) : (S.any fun p => decide (p.1 = x)) = true ↔ x ∈ S.map (·.1) := by
  rw [List.any_eq_true, List.mem_map]
  constructor
  · rintro ⟨p, hp, h⟩; exact ⟨p, hp, of_decide_eq_true h⟩
  · rintro ⟨p, hp, h⟩; exact ⟨p, hp, decide_eq_true h⟩
theorem shAt_out {S : Sh} {x : Str} (h : x ∉ S.map (·.1)) : shAt S x = (0, 1) := by
  unfold shAt
  rw [List.find?_eq_none.mpr fun p hp z => h (List.mem_map.mpr ⟨p, hp, of_decide_eq_true z⟩)]
  rfl
theorem shAt_mem {S : Sh} {x : Str} (h : x ∈ S.map (·.1)) : (x, shAt S x) ∈ S := by
  induction S with
  | nil => simp at h
  | cons p S ih =>
    rw [shAt_cons]
    by_cases e : p.1 = x
    · rw [if_pos e, ← e]
      exact List.mem_cons_self ..
    · rw [if_neg e]
      rw [List.map_cons, List.mem_cons] at h
      rcases h with h | h
      · exact absurd h.symm e
      · exact List.mem_cons_of_mem _ (ih h)
theorem shAt_of_mem {S : Sh} (nd : (S.map (·.1)).Nodup) {p : Str × Int × Int} (h : p ∈ S) : shAt S p.1 = p.2 := by
  induction S with
  | nil => cases h
  | cons r S ih =>
    rw [List.map_cons, List.nodup_cons] at nd
    rw [shAt_cons]
    rcases List.mem_cons.mp h with e | h
    · subst e; rw [if_pos rfl]
    · rw [if_neg (fun z => nd.1 (by rw [z]; exact List.mem_map_of_mem h)), ih nd.2 h]
theorem putS_names (S : Sh) (x : Str) (f : Int × Int) : (putS S x f).map (·.1) = if x ∈ S.map (·.1) then S.map (·.1) else S.map (·.1) ++ [x] := by
  unfold putS
  by_cases h : x ∈ S.map (·.1)
  · rw [if_pos ((any_iff S x).mpr h), if_pos h, List.map_map]
    refine List.map_congr_left fun p _ => ?_
    show (if p.1 = x then (p.1, f) else p).1 = p.1
    split <;> rfl
  · rw [if_neg (fun z => h ((any_iff S x).mp z)), if_neg h, List.map_append]
    rfl
theorem putS_nodup {S : Sh} (h : (S.map (·.1)).Nodup) (x : Str) (f : Int × Int) : ((putS S x f).map (·.1)).Nodup := by
  rw [putS_names]
  split
  · exact h
  · rename_i z
    rw [List.nodup_append]
    exact ⟨h, by simp, fun a ha b hb e => z (by rw [List.mem_singleton] at hb; rw [← hb, ← e]; exact ha)⟩
theorem putS_len (S : Sh) (x : Str) (f : Int × Int) : (putS S x f).length ≤ S.length + 1 := by
  have e : (putS S x f).length = ((putS S x f).map (·.1)).length := (List.length_map ..).symm
  rw [e, putS_names]
  split
  · rw [List.length_map]; omega
  · rw [List.length_append, List.length_map]; simp
theorem putS_mem {S : Sh} {x : Str} {f : Int × Int} {p : Str × Int × Int} (h : p ∈ putS S x f) : p = (x, f) ∨ p ∈ S := by
  unfold putS at h
  split at h
  · obtain ⟨r, hr, rfl⟩ := List.mem_map.mp h
    by_cases e : r.1 = x
    · rw [if_pos e, e]; exact .inl rfl
    · rw [if_neg e]; exact .inr hr
  · rcases List.mem_append.mp h with z | z
    · exact .inr z
    · exact .inl (List.mem_singleton.mp z)
theorem shAt_put (S : Sh) (x y : Str) (f : Int × Int) : shAt (putS S x f) y = if y = x then f else shAt S y := by
  unfold putS
  by_cases a : (S.any fun p => decide (p.1 = x)) = true
  · rw [if_pos a]
    have hx := (any_iff S x).mp a
    clear a
    induction S with
    | nil => simp at hx
    | cons p S ih =>
      rw [List.map_cons, shAt_cons, shAt_cons]
      by_cases e : p.1 = x
      · rw [if_pos e]
        by_cases e2 : p.1 = y
        · rw [if_pos e2, if_pos (e2.symm.trans e)]
        · rw [if_neg e2, if_neg e2]
          have hy : y ≠ x := fun z => e2 (e.trans z.symm)
          rw [if_neg hy]
          by_cases hx2 : x ∈ S.map (·.1)
          · rw [ih hx2, if_neg hy]
          · congr 1
            rw [List.map_congr_left (g := id) fun r hr => ?_, List.map_id]
            rw [if_neg (fun z => hx2 (List.mem_map.mpr ⟨r, hr, z⟩))]
            rfl
      · rw [if_neg e]
        rw [List.map_cons, List.mem_cons] at hx
        rcases hx with hx | hx
        · exact absurd hx.symm e
        · rw [ih hx]
          by_cases e2 : p.1 = y
          · rw [if_pos e2, if_pos e2, if_neg (fun z => e (e2.trans z))]
          · rw [if_neg e2, if_neg e2]
  · rw [if_neg a]
    have hx : x ∉ S.map (·.1) := fun z => a ((any_iff S x).mpr z)
    clear a
    induction S with
    | nil =>
      rw [List.nil_append, shAt_cons, shAt_nil]
      by_cases e : x = y
      · rw [if_pos e, if_pos e.symm]
      · rw [if_neg e, if_neg (fun z => e z.symm)]
    | cons p S ih =>
      rw [List.map_cons, List.mem_cons, not_or] at hx
      rw [List.cons_append, shAt_cons, shAt_cons, ih hx.2]
      by_cases e2 : p.1 = y
      · rw [if_pos e2, if_pos e2, if_neg (fun z => hx.1 (z.symm.trans e2.symm))]
      · rw [if_neg e2, if_neg e2]
end L2
namespace L2
open PySem PySem.Spec PyProof.Rows
/-! ### the order of texts -/
theorem lt_anti : ∀ (a b : List Nat), ltCps a b = false → ltCps b a = false → a = b
  | [], [], _, _ => rfl
  | [], _ :: _, h, _ => by simp [ltCps] at h
  | _ :: _, [], _, h => by simp [ltCps] at h
  | x :: r, y :: t, h1, h2 => by
    simp only [ltCps, Bool.or_eq_false_iff, decide_eq_false_iff_not, Bool.and_eq_false_iff, beq_eq_false_iff_ne] at h1 h2
    have e : x = y := by omega
    subst e
    have a := h1.2.resolve_left (fun z => z rfl)
    have b := h2.2.resolve_left (fun z => z rfl)
    rw [lt_anti r t a b]
theorem le_trans' : ∀ (a b c : List Nat), ltCps b a = false → ltCps c b = false → ltCps c a = false
  | [], _, [], _, _ => rfl
  | [], [], _ :: _, _, _ => rfl
  | [], _ :: _, _ :: _, _, _ => rfl
  | _ :: _, [], _, h, _ => by simp [ltCps] at h
  | _ :: _, _ :: _, [], _, h => by simp [ltCps] at h
  | x :: r, y :: t, z :: u, h1, h2 => by
    simp only [ltCps, Bool.or_eq_false_iff, decide_eq_false_iff_not, Bool.and_eq_false_iff, beq_eq_false_iff_ne] at h1 h2 ⊢
    refine ⟨by omega, ?_⟩
    by_cases e : z = x
    · right
      have e1 : y = x := by omega
      have e2 : z = y := by omega
      have a := h1.2.resolve_left (fun w => w e1)
      have b := h2.2.resolve_left (fun w => w e2)
      exact le_trans' r t u a b
    · exact .inl e
noncomputable def leS (a b : Str) : Prop := ltCps b.cps.toList a.cps.toList = false
theorem rising_pw : ∀ (l : List Str) (p : Str), risingS p l = true → (p :: l).Pairwise leS
  | [], p, _ => by simp
  | x :: r, p, h => by
    simp only [risingS, Bool.and_eq_true, Bool.not_eq_true'] at h
    have ih := rising_pw r x h.2
    rw [List.pairwise_cons]
    refine ⟨fun y hy => ?_, ih⟩
    rcases List.mem_cons.mp hy with e | hy
    · subst e; exact h.1
    · exact le_trans' _ _ _ h.1 ((List.pairwise_cons.mp ih).1 y hy)
theorem sorted_pw {l : List Str} (h : sortedS l = true) : l.Pairwise leS := by
  cases l with
  | nil => exact .nil
  | cons x r => exact rising_pw r x h
theorem str_ext {a b : Str} (h : a.cps.toList = b.cps.toList) : a = b := by
  cases a; cases b
  congr 1
  exact Array.toList_inj.mp h
theorem sorted_uniq {l m : List Str} (h : l.Perm m) (h1 : sortedS l = true) (h2 : sortedS m = true) : l = m :=
  List.Perm.eq_of_pairwise (fun a b _ _ x y => str_ext (lt_anti _ _ y x)) (sorted_pw h1) (sorted_pw h2) h
/-! ### fractions -/
noncomputable def plusF (f g : Int × Int) : Int × Int := (frT (f.1 * g.2 + g.1 * f.2) (f.2 * g.2), frB (f.1 * g.2 + g.1 * f.2) (f.2 * g.2))
noncomputable def minusF (f g : Int × Int) : Int × Int := (frT (f.1 * g.2 - g.1 * f.2) (f.2 * g.2), frB (f.1 * g.2 - g.1 * f.2) (f.2 * g.2))
structure FrOk (f : Int × Int) : Prop where
  pos : 0 < f.2
  cop : Int.gcd f.1 f.2 = 1
theorem frOk_fr (t : Int) {b : Int} (h : 0 < b) : FrOk (frT t b, frB t b) := ⟨frB_pos h, fr_cop h⟩
theorem plusF_ok {f g : Int × Int} (hf : 0 < f.2) (hg : 0 < g.2) : FrOk (plusF f g) := frOk_fr _ (Int.mul_pos hf hg)
theorem minusF_ok {f g : Int × Int} (hf : 0 < f.2) (hg : 0 < g.2) : FrOk (minusF f g) := frOk_fr _ (Int.mul_pos hf hg)
theorem minus_plus {f g : Int × Int} (hf : FrOk f) (hg : 0 < g.2) : plusF (minusF f g) g = f := by
  have c := fr_cross (f.1 * g.2 - g.1 * f.2) (f.2 * g.2)
  have q := (minusF_ok hf.pos hg).pos
  have e := fr_uniq (t := (minusF f g).1 * g.2 + g.1 * (minusF f g).2) (b := (minusF f g).2 * g.2) (p := f.1) (q := f.2) (Int.mul_pos q hg) hf.pos hf.cop (by
    show f.1 * (frB (f.1 * g.2 - g.1 * f.2) (f.2 * g.2) * g.2) = f.2 * (frT (f.1 * g.2 - g.1 * f.2) (f.2 * g.2) * g.2 + g.1 * frB (f.1 * g.2 - g.1 * f.2) (f.2 * g.2))
    generalize frB (f.1 * g.2 - g.1 * f.2) (f.2 * g.2) = y at c ⊢
    generalize frT (f.1 * g.2 - g.1 * f.2) (f.2 * g.2) = x at c ⊢
    grind)
  exact Prod.ext e.1.symm e.2.symm
theorem frT_nn {t b : Int} (ht : 0 ≤ t) (hb : 0 < b) : 0 ≤ frT t b := by
  rcases Int.lt_or_eq_of_le ht with h | h
  · exact Int.le_of_lt (frT_pos h hb)
  · subst h
    unfold frT
    simp
theorem frOk_zero {f : Int × Int} (h : FrOk f) (z : f.1 = 0) : f = (0, 1) := by
  obtain ⟨a, b⟩ := f
  have c := h.cop
  have p := h.pos
  simp only at z c p
  subst z
  rw [Int.gcd_zero_left] at c
  have : b = 1 := by omega
  rw [this]
/-! ### what is told of a dict of shares -/
noncomputable def toldS (S : Sh) (ss : List Str) : Sh := (ss.map fun x => (x, shAt S x)).filter fun p => decide (p.2 ≠ (0, 1))
noncomputable def toldP (S : Sh) (ss : List Str) : Sh := (ss.map fun x => (x, shAt S x)).filter fun p => decide (0 < p.2.1)
noncomputable def FIN : Int := 1000000000000000000000000000000000000000000000000000000000000
/-- shares with tops from nought on -/
structure ShOk (S : Sh) : Prop where
  nd : (S.map (·.1)).Nodup
  ok : ∀ p ∈ S, FrOk p.2 ∧ 0 ≤ p.2.1
theorem ShOk.at {S : Sh} (h : ShOk S) (x : Str) : FrOk (shAt S x) ∧ 0 ≤ (shAt S x).1 := by
  by_cases z : x ∈ S.map (·.1)
  · exact h.ok _ (shAt_mem z)
  · rw [shAt_out z]
    exact ⟨⟨by decide, by decide⟩, by decide⟩
theorem ShOk.put {S : Sh} (h : ShOk S) (x : Str) {f : Int × Int} (hf : FrOk f) (h0 : 0 ≤ f.1) : ShOk (putS S x f) := by
  refine ⟨putS_nodup h.nd x f, fun p hp => ?_⟩
  rcases putS_mem hp with e | e
  · subst e; exact ⟨hf, h0⟩
  · exact h.ok p e
theorem told_same {S : Sh} (h : ShOk S) (ss : List Str) : toldP S ss = toldS S ss := by
  unfold toldP toldS
  refine List.filter_congr fun p hp => ?_
  obtain ⟨x, _, rfl⟩ := List.mem_map.mp hp
  obtain ⟨o, n⟩ := h.at x
  rw [decide_eq_decide]
  constructor
  · intro z e
    rw [e] at z
    exact absurd z (by decide)
  · intro z
    rcases Int.lt_or_eq_of_le n with a | a
    · exact a
    · exact absurd (frOk_zero o a.symm) z
theorem fine_iff {S : Sh} {ss : List Str} (nd : (S.map (·.1)).Nodup) (pm : ss.Perm (S.map (·.1))) : (∃ p ∈ toldS S ss, FIN < p.2.2) ↔ ∃ p ∈ S, FIN < p.2.2 := by
  constructor
  · rintro ⟨p, hp, h⟩
    unfold toldS at hp
    obtain ⟨x, hx, rfl⟩ := List.mem_map.mp (List.mem_filter.mp hp).1
    exact ⟨_, shAt_mem (pm.mem_iff.mp hx), h⟩
  · rintro ⟨p, hp, h⟩
    refine ⟨p, ?_, h⟩
    unfold toldS
    refine List.mem_filter.mpr ⟨List.mem_map.mpr ⟨p.1, pm.mem_iff.mpr (List.mem_map_of_mem hp), ?_⟩, decide_eq_true fun e => ?_⟩
    · rw [shAt_of_mem nd hp]
    · rw [e] at h
      exact absurd h (by decide)
theorem told_self {S T : Sh} {ss : List Str} (nd : (S.map (·.1)).Nodup) (so : sortedS (S.map (·.1)) = true) (nz : ∀ p ∈ S, p.2 ≠ (0, 1)) (at_ : ∀ x, shAt T x = shAt S x) (nm : T.map (·.1) = S.map (·.1)) (pm : ss.Perm (T.map (·.1))) (so2 : sortedS ss = true) : toldS T ss = S := by
  rw [nm] at pm
  rw [sorted_uniq pm so2 so]
  unfold toldS
  rw [List.map_map]
  have e : S.map ((fun x => (x, shAt T x)) ∘ fun p => p.1) = S := by
    rw [List.map_congr_left (g := id) fun p hp => ?_, List.map_id]
    show (p.1, shAt T p.1) = p
    rw [at_, shAt_of_mem nd hp]
  rw [e]
  exact List.filter_eq_self.mpr fun p hp => decide_eq_true (nz p hp)
theorem drop_at {α : Type} {l : List α} {i : Nat} {x : α} (h : l[i]? = some x) : l.drop i = x :: l.drop (i + 1) := by
  rw [List.drop_eq_getElem?_toList_append, h]
  rfl
theorem toldS_snoc {S : Sh} {ss : List Str} {i : Nat} {x : Str} (h : ss[i]? = some x) : toldS S (ss.take (i + 1)) = toldS S (ss.take i) ++ (if shAt S x = (0, 1) then [] else [(x, shAt S x)]) := by
  unfold toldS
  rw [List.take_add_one, h, Option.toList_some, List.map_append, List.filter_append]
  congr 1
  by_cases z : shAt S x = (0, 1)
  · rw [if_pos z]
    simp [z]
  · rw [if_neg z]
    simp [z]
theorem toldP_snoc {S : Sh} {ss : List Str} {i : Nat} {x : Str} (h : ss[i]? = some x) : toldP S (ss.take (i + 1)) = toldP S (ss.take i) ++ (if 0 < (shAt S x).1 then [(x, shAt S x)] else []) := by
  unfold toldP
  rw [List.take_add_one, h, Option.toList_some, List.map_append, List.filter_append]
  congr 1
  by_cases z : 0 < (shAt S x).1
  · rw [if_pos z]
    simp [z]
  · rw [if_neg z]
    simp [z]
theorem told_len (S : Sh) (ss : List Str) : (toldS S ss).length ≤ ss.length := by
  unfold toldS
  refine Nat.le_trans (List.length_filter_le ..) ?_
  rw [List.length_map]
  exact Nat.le_refl _
theorem toldP_len (S : Sh) (ss : List Str) : (toldP S ss).length ≤ ss.length := by
  unfold toldP
  refine Nat.le_trans (List.length_filter_le ..) ?_
  rw [List.length_map]
  exact Nat.le_refl _
theorem compT {K : PySem.W.Frag} {a : Addr} {xs : List V} {g : TG} {tt : TT} {te : TE} {σ0 : St} {Q : Hp → Prop} {D : Addr} {H : Hp} (Pv : Nat → List V → Hp → Prop) (h0 : Pv 0 [] H) (hl : ∀ i acc H, i ≤ xs.length → Pv i acc H → SqT K H a xs)
    (hs : ∀ i x acc H2, xs[i]? = some x → Pv i acc H2 → g x σ0 H2 fun σ2 H4 => tt σ2 H4 fun b H5 =>
      if b = true then te σ2 H5 fun y H6 => H6 D = some (.lst acc) ∧ acc.length < sizeLine ∧ Pv (i + 1) (acc ++ [y]) (upd H6 D (.lst (acc ++ [y]))) else Pv (i + 1) acc H5)
    (hd : ∀ acc H2, Pv xs.length acc H2 → Q H2) :
    ∃ W : Nat → Nat → List V → Hp → Prop, (∃ m, W 0 m [] H) ∧ ∀ i m acc H2, W i m acc H2 →
      ((Itt K a).stop i H2 ∧ Q H2) ∨ ((Itt K a).go i H2 ∧ ∃ N : List V → Hp → Prop, (∀ acc' H', N acc' H' → ∃ m', m' < m ∧ W (i + 1) m' acc' H') ∧ ∀ x H3, (Itt K a).yld i H2 x H3 → g x σ0 H3 fun σ2 H4 => tt σ2 H4 fun b H5 =>
        if b = true then te σ2 H5 fun y H6 => H6 D = some (.lst acc) ∧ acc.length < sizeLine ∧ N (acc ++ [y]) (upd H6 D (.lst (acc ++ [y]))) else N acc H5) := by
  refine ⟨fun i m acc H => m = xs.length - i ∧ i ≤ xs.length ∧ Pv i acc H, ⟨xs.length, by simp, Nat.zero_le _, h0⟩, ?_⟩
  rintro i m acc H2 ⟨rfl, hi, p⟩
  have q := hl i acc H2 hi p
  by_cases hlt : i < xs.length
  · refine .inr ⟨⟨xs, xs[i], q, by simp [hlt]⟩, Pv (i + 1), fun acc' H' p' => ⟨xs.length - (i + 1), by omega, rfl, hlt, p'⟩, fun x H3 y => ?_⟩
    obtain ⟨e, y⟩ := y
    subst e
    exact hs i x acc _ (y xs q) p
  · have e : i = xs.length := by omega
    subst e
    exact .inl ⟨⟨xs, q, Nat.le_refl _⟩, hd acc H2 p⟩
/-- two fractions alike or not, as data -/
theorem eqv_fr (a b c d : Int) : PyData.eqv (.tuple [.int a, .int b]) (.tuple [.int c, .int d]) = decide ((a, b) = (c, d)) := by
  by_cases h : (a, b) = (c, d)
  · obtain ⟨rfl, rfl⟩ := Prod.mk.inj h
    rw [eqv2, decide_eq_true rfl]
  · rw [decide_eq_false h]
    cases e : PyData.eqv (.tuple [.int a, .int b]) (.tuple [.int c, .int d]) with
    | false => rfl
    | true =>
      exfalso
      apply h
      simp [PyData.eqv, PyData.eqvAll] at e
      rw [e.1, e.2]
end L2
namespace L2
open PySem PySem.Spec PyProof.Rows
noncomputable def handS (S : Sh) (g k : Str) (f : Int × Int) : Sh := putS (putS S g (minusF (shAt S g) f)) k (plusF (shAt (putS S g (minusF (shAt S g) f)) k) f)
/-- shares of bounded figures -/
noncomputable def ShB (n : Nat) (S : Sh) : Prop := ∀ p ∈ S, Bd n p.2.1 ∧ Bd n p.2.2
theorem ShB.at {n : Nat} {S : Sh} (h : ShB n S) (hn : 2 ≤ n) (x : Str) : Bd n (shAt S x).1 ∧ Bd n (shAt S x).2 := by
  by_cases z : x ∈ S.map (·.1)
  · exact h _ (shAt_mem z)
  · rw [shAt_out z]
    exact ⟨Bd.mono (m := 2) (Bd.of (by decide)) hn, Bd.mono (m := 2) (Bd.of (by decide)) hn⟩
theorem ShB.mono {n m : Nat} {S : Sh} (h : ShB n S) (hn : n ≤ m) : ShB m S := fun p hp => ⟨(h p hp).1.mono hn, (h p hp).2.mono hn⟩
theorem ShB.put {n : Nat} {S : Sh} (h : ShB n S) (x : Str) {f : Int × Int} (h1 : Bd n f.1) (h2 : Bd n f.2) : ShB n (putS S x f) := fun p hp => by
  rcases putS_mem hp with e | e
  · subst e; exact ⟨h1, h2⟩
  · exact h p e
theorem bd_minus {n m : Nat} {f g : Int × Int} (f1 : Bd n f.1) (f2 : Bd n f.2) (g1 : Bd m g.1) (g2 : Bd m g.2) : Bd (n + m + 1) (minusF f g).1 ∧ Bd (n + m) (minusF f g).2 := by
  have e1 : Bd (n + m) (f.1 * g.2) := f1.mul g2
  have e2 : Bd (n + m) (g.1 * f.2) := by rw [Int.mul_comm]; exact f2.mul g1
  have e3 : Bd (n + m) (f.2 * g.2) := f2.mul g2
  have e4 : Bd (n + m + 1) (f.1 * g.2 - g.1 * f.2) := by rw [Int.sub_eq_add_neg]; exact (e1.add e2.neg).mono (by omega)
  exact ⟨Bd.frT e4, Bd.frB e3⟩
theorem bd_plus {n m : Nat} {f g : Int × Int} (f1 : Bd n f.1) (f2 : Bd n f.2) (g1 : Bd m g.1) (g2 : Bd m g.2) : Bd (n + m + 1) (plusF f g).1 ∧ Bd (n + m) (plusF f g).2 := by
  have e1 : Bd (n + m) (f.1 * g.2) := f1.mul g2
  have e2 : Bd (n + m) (g.1 * f.2) := by rw [Int.mul_comm]; exact f2.mul g1
  have e3 : Bd (n + m) (f.2 * g.2) := f2.mul g2
  exact ⟨Bd.frT ((e1.add e2).mono (by omega)), Bd.frB e3⟩
theorem handS_len (S : Sh) (g k : Str) (f : Int × Int) : (handS S g k f).length ≤ S.length + 2 := by
  unfold handS
  have h1 := putS_len S g (minusF (shAt S g) f)
  have h2 := putS_len (putS S g (minusF (shAt S g) f)) k (plusF (shAt (putS S g (minusF (shAt S g) f)) k) f)
  omega
theorem minus_nn {f g : Int × Int} (hf : 0 < f.2) (hg : 0 < g.2) (h : ¬ f.1 * g.2 < g.1 * f.2) : 0 ≤ (minusF f g).1 := frT_nn (by omega) (Int.mul_pos hf hg)
theorem plus_nn {f g : Int × Int} (hf : 0 < f.2) (hg : 0 < g.2) (h1 : 0 ≤ f.1) (h2 : 0 ≤ g.1) : 0 ≤ (plusF f g).1 :=
  frT_nn (Int.add_nonneg (Int.mul_nonneg h1 (Int.le_of_lt hg)) (Int.mul_nonneg h2 (Int.le_of_lt hf))) (Int.mul_pos hf hg)
/-- who gives to themselves has what they had -/
theorem handS_self {S : Sh} (h : ShOk S) {g : Str} {f : Int × Int} (hf : 0 < f.2) (x : Str) : shAt (handS S g g f) x = shAt S x := by
  unfold handS
  rw [shAt_put, shAt_put, shAt_put, if_pos rfl, minus_plus (h.at g).1 hf]
  by_cases e : x = g
  · rw [if_pos e, e]
  · rw [if_neg e, if_neg e]
theorem handS_names {S : Sh} {g : Str} {f : Int × Int} (h : g ∈ S.map (·.1)) : (handS S g g f).map (·.1) = S.map (·.1) := by
  unfold handS
  have e := putS_names S g (minusF (shAt S g) f)
  rw [if_pos h] at e
  rw [putS_names, e, if_pos h]
theorem giver_in {S : Sh} {g : Str} {f : Int × Int} (h0 : 0 < f.1) (hn : ¬ (shAt S g).1 * f.2 < f.1 * (shAt S g).2) : g ∈ S.map (·.1) :=
  Decidable.byContradiction fun z => by
    rw [shAt_out z] at hn
    apply hn
    show 0 * f.2 < f.1 * 1
    omega
end L2
namespace L2
open PySem PySem.Spec PyProof.Rows
theorem ShF.dictE {K : PySem.W.Frag} {H : Hp} {a : Addr} {S : Sh} (h : ShF K H a S) (nd : (S.map (·.1)).Nodup) : ∃ o vs kvs, PlainT o ∧ H a = some (.frz o (.tup vs)) ∧
    Paired (fun v (kv : Key × V) => ∃ r, v = .ref r ∧ SqT K H r [kV kv.1, kv.2]) vs kvs ∧ ∀ l, H l = none → ShD K (upd H l (.dK (mergeK [] kvs))) l S := by
  obtain ⟨o, vs, p, e, r⟩ := h
  obtain ⟨kvs, h1, h2⟩ := sh_pairs r
  refine ⟨o, vs, kvs, p, e, h1, fun l hl => ?_⟩
  have s := Same.upd (o := .dK (mergeK [] kvs)) hl
  rw [mergeK_nil (by rw [shv_keys h2]; exact nodup_inr nd)] at s ⊢
  exact ⟨kvs, upd_same, Paired.imp (fun _ _ => ShV.tk s.tk) h2⟩
end L2
namespace L2
open PySem PySem.Spec PyProof.Rows
theorem sh_get {K : PySem.W.Frag} {H : Hp} {x : Str} {l : Addr} {kvs : List (Key × V)} {S : Sh} (r : Paired (ShV K H) kvs S) (h0 : SqT K H l [.int 0, .int 1]) :
    ∃ p, (valV kvs (Sum.inr x)).getD (.ref l) = .ref p ∧ SqT K H p [.int (shAt S x).1, .int (shAt S x).2] := by
  rcases shv_val (x := x) r with ⟨h1, h2⟩ | ⟨p, f, h1, h2, h3⟩
  · refine ⟨l, by rw [h1]; rfl, ?_⟩
    have e : shAt S x = (0, 1) := by unfold shAt; rw [h2]; rfl
    rw [e]
    exact h0
  · refine ⟨p, by rw [h1]; rfl, ?_⟩
    have e : shAt S x = f.2 := by unfold shAt; rw [h2]; rfl
    rw [e]
    exact h3
theorem sh_in {K : PySem.W.Frag} {H : Hp} {x : Str} {kvs : List (Key × V)} {S : Sh} (r : Paired (ShV K H) kvs S) (hin : x ∈ S.map (·.1)) :
    ∃ p, valV kvs (Sum.inr x) = some (.ref p) ∧ SqT K H p [.int (shAt S x).1, .int (shAt S x).2] := by
  rcases shv_val (x := x) r with ⟨h1, h2⟩ | ⟨p, f, h1, h2, h3⟩
  · have := List.find?_eq_none.mp h2 _ (shAt_mem hin)
    simp at this
  · have e : shAt S x = f.2 := by unfold shAt; rw [h2]; rfl
    exact ⟨p, h1, by rw [e]; exact h3⟩
theorem shv_at {K : PySem.W.Frag} {H : Hp} : ∀ {kvs : List (Key × V)} {S : Sh}, Paired (ShV K H) kvs S → ∀ {i : Nat} {k : Key} {v : V}, kvs[i]? = some (k, v) → ∃ p, S[i]? = some p ∧ k = Sum.inr p.1
  | _, _, .nil, _, _, _, e => by simp at e
  | _, _, .cons a b, 0, k, v, e => by
    simp at e
    obtain ⟨h1, _⟩ := a
    refine ⟨_, rfl, ?_⟩
    rw [← h1, e]
  | _, _, .cons a b, i + 1, k, v, e => by
    obtain ⟨p, h1, h2⟩ := shv_at b (i := i) (k := k) (v := v) (by simpa using e)
    exact ⟨p, by simpa using h1, h2⟩
theorem fin60 : (10 : Int) ^ (60 : Int).toNat = FIN := by rw [p60]; rfl
end L2
namespace L2
open PySem PySem.Spec PyProof.Rows
theorem Owned.data {S : Sh} (h : Owned 10000000000000000000000000000000000000000000000000000000000 S) : ShOk S ∧ S.length ≤ 7 ∧ ShB 250 S ∧ sortedS (S.map (·.1)) = true ∧ (∀ p ∈ S, p.2 ≠ (0, 1)) ∧ ∀ p ∈ S, IsNm p.1 := by
  obtain ⟨ws, ss, ok, ⟨w1, w7⟩, pm, so, rfl⟩ := h.ex
  have tw := totW_le fun p hp => (ok.ok p hp).2
  have t0 : 0 < totW ws := by omega
  have t1 : totW ws ≤ 70000000000000000000000000000000000000000000000000000000000 := by
    have := Int.mul_le_mul_of_nonneg_left (c := (10000000000000000000000000000000000000000000000000000000000 : Int)) (show (ws.length : Int) ≤ 7 by omega) (by decide)
    omega
  have bt : Bd 250 (totW ws) := bd_le (by omega) (by omega)
  have nm : (ownS ws ss).map (·.1) = ss := by
    unfold ownS
    rw [List.map_map]
    exact (List.map_congr_left fun _ _ => rfl).trans (List.map_id _)
  have ln : ss.length ≤ 7 := by rw [pm.length_eq, List.length_map]; exact w7
  have all : ∀ p ∈ ownS ws ss, ∃ x ∈ ss, p = (x, frT (wOf ws x) (totW ws), frB (wOf ws x) (totW ws)) ∧ IsNm x ∧ 0 < wOf ws x ∧ wOf ws x ≤ 10000000000000000000000000000000000000000000000000000000000 := by
    intro p hp
    unfold ownS at hp
    obtain ⟨x, hx, rfl⟩ := List.mem_map.mp hp
    obtain ⟨_, w, hw, e1, e2⟩ := val_in (pm.mem_iff.mp hx)
    have := ok.ok w hw
    refine ⟨x, hx, rfl, by rw [← e1]; exact this.1, by rw [← e2]; exact this.2.1, by rw [← e2]; exact this.2.2⟩
  refine ⟨⟨by rw [nm]; exact pm.nodup_iff.mpr ok.nd, fun p hp => ?_⟩, by unfold ownS; rw [List.length_map]; exact ln, fun p hp => ?_, by rw [nm]; exact so, fun p hp => ?_, fun p hp => ?_⟩
  · obtain ⟨x, _, rfl, _, h1, _⟩ := all p hp
    exact ⟨frOk_fr _ t0, Int.le_of_lt (frT_pos h1 t0)⟩
  · obtain ⟨x, _, rfl, _, h1, h2⟩ := all p hp
    exact ⟨Bd.frT (bd_le (by omega) (by omega)), Bd.frB bt⟩
  · obtain ⟨x, _, rfl, _, h1, _⟩ := all p hp
    intro e
    have := frT_pos h1 t0
    have e2 := congrArg Prod.fst e
    simp only at e2
    omega
  · obtain ⟨x, _, rfl, h1, _⟩ := all p hp
    exact h1
theorem pick {ss : List Str} {i : Int} (h0 : 0 ≤ i) (h1 : i < ss.length) : ∃ g ∈ ss, atI (ss.map V.str) i = some (.str g) := by
  obtain ⟨n, rfl⟩ := Int.eq_ofNat_of_zero_le h0
  have hn : n < ss.length := by omega
  refine ⟨ss[n], List.getElem_mem hn, atI_nat ?_⟩
  rw [List.getElem?_map, List.getElem?_eq_getElem hn]
  rfl
theorem lay_strs {l : List Str} (h : ∀ x ∈ l, PyData.canLay0 (.str x) = true) : PyData.canLayAll0 (l.map PyData.str) = true := by
  induction l with
  | nil => rfl
  | cons x l ih =>
    show (PyData.canLay0 (.str x) && PyData.canLayAll0 (l.map PyData.str)) = true
    rw [h x (List.mem_cons_self ..), ih fun y hy => h y (List.mem_cons_of_mem _ hy)]
    rfl
theorem isDs_strs {K : PySem.W.Frag} {H : Hp} : ∀ (l : List Str), IsDs K H (l.map PyData.str) (l.map V.str)
  | [] => .nil
  | _ :: l => .cons (.str _) (isDs_strs l)
theorem dep_strs : ∀ (l : List Str), PyData.depthAll (l.map PyData.str) = 0
  | [] => rfl
  | x :: l => by
    show max 0 (PyData.depthAll (l.map PyData.str)) = 0
    rw [dep_strs l]
    rfl
theorem eqv_strs {l : List Str} (h : ∀ x ∈ l, PyData.canLay0 (.str x) = true) : PyData.eqv (.list (l.map PyData.str)) (.list (l.map PyData.str)) = true := SeqAt.eqv_refl _ (lay_strs h)
end L2
namespace L2
open PySem PySem.Spec
end L2
namespace L2
open PySem PySem.Spec PyProof.Rows
theorem told_mem {T : Sh} {ss : List Str} {p : Str × Int × Int} (h : p ∈ toldS T ss) : p.1 ∈ ss := by
  unfold toldS at h
  obtain ⟨x, hx, rfl⟩ := List.mem_map.mp (List.mem_filter.mp h).1
  exact hx
end L2
namespace L2
open PySem PySem.Spec PyProof.Rows
section
variable {X : Cx} {e k : Expr} {te : TE} {tk : TO} {pos p2 : Pos}
noncomputable def tRev (K : PySem.W.Frag) (te : TE) (tk : TO) : TE := fun σ H Q => te σ H fun x H1 => tk σ H1 fun st H2 => ∃ a xs, x = .ref a ∧ st = some (-1) ∧ SqL K H2 a xs ∧ ∀ p, H2 p = none → Q (.ref p) (upd H2 p (.lst xs.reverse))
/-- a[::-1], a list -/
theorem pe_sliceR (he : PE X e te) (hk : PO X (some k) tk) : PE X (.Subscript e (.Slice none none (some k) p2) pos) (tRev X.K te tk) := by
  intro pins s σ H Q I h
  refine Subscript_ (thn (he pins s σ H _ I h) fun v s1 ⟨x, H1, I1, r1, q1⟩ => ?_)
  refine wpAny_Slice ?_
  rw [evalPart_none]
  refine wpAny_pure ?_
  refine wpAny_pure ?_
  refine thn (hk pins s1 σ H1 _ I1 q1) fun vk s2 ⟨st, H2, I2, pk, q2⟩ => ?_
  obtain ⟨a, xs, rfl, rfl, hx, q⟩ := q2
  cases r1
  have I4 : Inv X pins σ H2 { s2 with heap := s2.heap.push { cls := .type "slice", data := .fields #[.none, .none, vk] } } := I2.kept (t' := s2.toks) fun b ob q => Heap.get?_push_of_some _ q
  obtain ⟨its, r, ht, hz⟩ := I4.list hx
  have hlen := r.length
  have hg : wpAny (model X.prog X.w) X.A (getItem (.ref a) (.ref s2.heap.objs.size)) (EP X pins σ Q) X.xe { s2 with heap := s2.heap.push { cls := .type "slice", data := .fields #[.none, .none, vk] } } := by
    refine wpAny_getItem_list_slice ht.isList (Heap.IsSliceOf.new ..) .none .none pk (by decide) ?_ (by rw [List.size_toArray] <;> omega)
    rw [PySem.W.krv_pick]
    refine ⟨.ref _, _, I4.laid (t' := s2.toks) (o := .lst xs.reverse) (fun b ob q => Heap.get?_push_of_some _ q) (Nat.le_refl _) ?_, rfl, q _ (I4.hok.fresh (Nat.le_refl _))⟩
    exact ⟨by rw [List.length_reverse]; exact hz, its.reverse, 0, r.reverse, Heap.get?_push_size _ rfl⟩
  show wpAny (model X.prog X.w) X.A (subscriptTail e (.Slice none none (some k) p2) (.ref a) (.ref s2.heap.objs.size)) (EP X pins σ Q) X.xe { s2 with heap := s2.heap.push { cls := .type "slice", data := .fields #[.none, .none, vk] } }
  exact tail_any (ops := [.ref a, .ref s2.heap.objs.size]) ht.isList.typeIs slot_list_getitem.lookup hg (by with_unfolding_all rfl)
end
end L2
namespace L2
open PySem PySem.Spec PyProof.Rows
noncomputable def frOf (t b : Int) : Int × Int := (frT t b, frB t b)
noncomputable def prodF (f g : Int × Int) : Int × Int := frOf (f.1 * g.1) (f.2 * g.2)
theorem frOf_ok (t : Int) {b : Int} (h : 0 < b) : FrOk (frOf t b) := frOk_fr t h
theorem frOf_eq {t b t' b' : Int} (h : 0 < b) (h' : 0 < b') (e : t * b' = t' * b) : frOf t b = frOf t' b' := by
  have c := fr_cross t b
  have k := frOk_fr t h
  have u := fr_uniq (t := t') (b := b') h' k.pos k.cop (by
    show frT t b * b' = frB t b * t'
    refine Int.eq_of_mul_eq_mul_right (a := b) (by omega) ?_
    generalize frT t b = x at c ⊢
    generalize frB t b = y at c ⊢
    have e1 : x * b' * b = y * t * b' := by rw [← c]; grind
    have e2 : y * t' * b = y * (t * b') := by rw [e]; grind
    rw [e1, e2]
    grind)
  exact Prod.ext u.1 u.2
theorem frOf_self {f : Int × Int} (h : FrOk f) : frOf f.1 f.2 = f := by
  have := fr_self h.pos h.cop
  exact Prod.ext this.1 this.2
theorem plus_frOf {t b u c : Int} (hb : 0 < b) (hc : 0 < c) : plusF (frOf t b) (frOf u c) = frOf (t * c + u * b) (b * c) := by
  have k1 := frOk_fr t hb
  have k2 := frOk_fr u hc
  have c1 := fr_cross t b
  have c2 := fr_cross u c
  refine frOf_eq (Int.mul_pos k1.pos k2.pos) (Int.mul_pos hb hc) ?_
  show (frT t b * frB u c + frT u c * frB t b) * (b * c) = (t * c + u * b) * (frB t b * frB u c)
  generalize frT t b = x at c1 ⊢
  generalize frB t b = y at c1 ⊢
  generalize frT u c = z at c2 ⊢
  generalize frB u c = w at c2 ⊢
  have e1 : (x * w + z * y) * (b * c) = (x * b) * w * c + (z * c) * y * b := by grind
  rw [e1, c1, c2]
  grind
theorem prod_frOf {t b u c : Int} (hb : 0 < b) (hc : 0 < c) : prodF (frOf t b) (frOf u c) = frOf (t * u) (b * c) := by
  have k1 := frOk_fr t hb
  have k2 := frOk_fr u hc
  have c1 := fr_cross t b
  have c2 := fr_cross u c
  refine frOf_eq (Int.mul_pos k1.pos k2.pos) (Int.mul_pos hb hc) ?_
  show frT t b * frT u c * (b * c) = t * u * (frB t b * frB u c)
  generalize frT t b = x at c1 ⊢
  generalize frB t b = y at c1 ⊢
  generalize frT u c = z at c2 ⊢
  generalize frB u c = w at c2 ⊢
  have e1 : x * z * (b * c) = (x * b) * (z * c) := by grind
  rw [e1, c1, c2]
  grind
theorem nought_ok : FrOk (0, 1) := ⟨by decide, by decide⟩
theorem frOf_zero {b : Int} (h : 0 < b) : frOf 0 b = (0, 1) := by
  have e := frOf_eq (t := 0) (b := b) (t' := 0) (b' := 1) h (by decide) (by simp)
  rw [e]
  exact frOf_self nought_ok
theorem plus_nought {f : Int × Int} (h : FrOk f) : plusF f (0, 1) = f := by
  show frOf (f.1 * 1 + 0 * f.2) (f.2 * 1) = f
  rw [show f.1 * 1 + 0 * f.2 = f.1 by omega, Int.mul_one]
  exact frOf_self h
theorem nought_plus {f : Int × Int} (h : FrOk f) : plusF (0, 1) f = f := by
  show frOf (0 * f.2 + f.1 * 1) (1 * f.2) = f
  rw [show 0 * f.2 + f.1 * 1 = f.1 by omega, Int.one_mul]
  exact frOf_self h
theorem prod_nought {w : Int × Int} (h : 0 < w.2) : prodF w (0, 1) = (0, 1) := by
  show frOf (w.1 * 0) (w.2 * 1) = (0, 1)
  rw [Int.mul_zero, Int.mul_one]
  exact frOf_zero h
theorem prodF_ok {f g : Int × Int} (hf : 0 < f.2) (hg : 0 < g.2) : FrOk (prodF f g) := frOf_ok _ (Int.mul_pos hf hg)
theorem bd_prod {n m : Nat} {f g : Int × Int} (f1 : Bd n f.1) (f2 : Bd n f.2) (g1 : Bd m g.1) (g2 : Bd m g.2) : Bd (n + m) (prodF f g).1 ∧ Bd (n + m) (prodF f g).2 := ⟨Bd.frT (f1.mul g1), Bd.frB (f2.mul g2)⟩
/-! ### mixed -/
noncomputable def mixOne (w : Int × Int) (acc S : Sh) : Sh := S.foldl (fun a p => putS a p.1 (plusF (shAt a p.1) (prodF w p.2))) acc
theorem mixOne_snoc {w : Int × Int} {acc S : Sh} {i : Nat} {p : Str × Int × Int} (h : S[i]? = some p) : mixOne w acc (S.take (i + 1)) = putS (mixOne w acc (S.take i)) p.1 (plusF (shAt (mixOne w acc (S.take i)) p.1) (prodF w p.2)) := by
  unfold mixOne
  rw [List.take_add_one, h, Option.toList_some, List.foldl_append]
  rfl
theorem mixOne_names {w : Int × Int} : ∀ (S acc : Sh) (x : Str), x ∈ (mixOne w acc S).map (·.1) ↔ x ∈ acc.map (·.1) ∨ x ∈ S.map (·.1)
  | [], acc, x => by unfold mixOne; simp
  | p :: S, acc, x => by
    have ih := mixOne_names (w := w) S (putS acc p.1 (plusF (shAt acc p.1) (prodF w p.2))) x
    rw [show mixOne w acc (p :: S) = mixOne w (putS acc p.1 (plusF (shAt acc p.1) (prodF w p.2))) S from rfl, ih, putS_names]
    by_cases h : p.1 ∈ acc.map (·.1)
    · rw [if_pos h, List.map_cons, List.mem_cons]
      constructor
      · rintro (a | a)
        · exact .inl a
        · exact .inr (.inr a)
      · rintro (a | a | a)
        · exact .inl a
        · rw [a]; exact .inl h
        · exact .inr a
    · rw [if_neg h, List.map_cons, List.mem_cons, List.mem_append, List.mem_singleton]
      constructor
      · rintro ((a | a) | a)
        · exact .inl a
        · exact .inr (.inl a)
        · exact .inr (.inr a)
      · rintro (a | a | a)
        · exact .inl (.inl a)
        · exact .inl (.inr a)
        · exact .inr a
theorem mixOne_nodup {w : Int × Int} : ∀ (S acc : Sh), (acc.map (·.1)).Nodup → ((mixOne w acc S).map (·.1)).Nodup
  | [], _, h => h
  | p :: S, acc, h => mixOne_nodup (w := w) S (putS acc p.1 (plusF (shAt acc p.1) (prodF w p.2))) (putS_nodup h ..)
theorem mixOne_len {w : Int × Int} : ∀ (S acc : Sh), (mixOne w acc S).length ≤ acc.length + S.length
  | [], _ => Nat.le_refl _
  | p :: S, acc => by
    have h1 := mixOne_len (w := w) S (putS acc p.1 (plusF (shAt acc p.1) (prodF w p.2)))
    have h2 := putS_len acc p.1 (plusF (shAt acc p.1) (prodF w p.2))
    show (mixOne w (putS acc p.1 (plusF (shAt acc p.1) (prodF w p.2))) S).length ≤ _
    rw [List.length_cons]
    omega
theorem mixOne_at {w : Int × Int} (hw : 0 < w.2) : ∀ (S acc : Sh) (x : Str), (S.map (·.1)).Nodup → FrOk (shAt acc x) → shAt (mixOne w acc S) x = plusF (shAt acc x) (prodF w (shAt S x))
  | [], acc, x, _, ha => by
    rw [shAt_nil, prod_nought hw, plus_nought ha]
    rfl
  | p :: S, acc, x, nd, ha => by
    rw [List.map_cons, List.nodup_cons] at nd
    rw [show mixOne w acc (p :: S) = mixOne w (putS acc p.1 (plusF (shAt acc p.1) (prodF w p.2))) S from rfl, shAt_cons]
    by_cases h : p.1 = x
    · rw [if_pos h]
      have e : ∀ (S' acc' : Sh), x ∉ S'.map (·.1) → shAt (mixOne w acc' S') x = shAt acc' x := by
        intro S'
        induction S' with
        | nil => intro acc' _; rfl
        | cons r S' ih =>
          intro acc' hx
          rw [List.map_cons, List.mem_cons, not_or] at hx
          show shAt (mixOne w (putS acc' r.1 (plusF (shAt acc' r.1) (prodF w r.2))) S') x = _
          rw [ih _ hx.2, shAt_put, if_neg hx.1]
      rw [e _ _ (by rw [← h]; exact nd.1), shAt_put, if_pos h.symm, h]
    · rw [if_neg h]
      have e := shAt_put acc p.1 x (plusF (shAt acc p.1) (prodF w p.2))
      rw [if_neg (fun z => h z.symm)] at e
      rw [mixOne_at hw S _ x nd.2 (by rw [e]; exact ha), e]
noncomputable def mixS (A : Sh) (m n : Int) (B : Sh) : Sh := mixOne (frOf n (m + n)) (mixOne (frOf m (m + n)) [] A) B
/-- everybody's share of both -/
noncomputable def mixV (A : Sh) (m : Int) (B : Sh) (n : Int) (x : Str) : Int × Int := frOf (m * (shAt A x).1 * (shAt B x).2 + n * (shAt B x).1 * (shAt A x).2) ((m + n) * (shAt A x).2 * (shAt B x).2)
theorem mixS_at {A B : Sh} {m n : Int} (hA : ShOk A) (hB : ShOk B) (hm : 0 < m) (hn : 0 < n) (x : Str) : shAt (mixS A m n B) x = mixV A m B n x := by
  have hmn : 0 < m + n := by omega
  have a := hA.at x
  have b := hB.at x
  have w1 := (frOf_ok m hmn).pos
  have w2 := (frOf_ok n hmn).pos
  have e1 := mixOne_at w1 A [] x hA.nd nought_ok
  rw [shAt_nil, nought_plus (prodF_ok w1 a.1.pos)] at e1
  unfold mixS
  rw [mixOne_at w2 B _ x hB.nd (by rw [e1]; exact prodF_ok w1 a.1.pos), e1]
  conv => lhs; rw [← frOf_self a.1, ← frOf_self b.1]
  rw [prod_frOf hmn a.1.pos, prod_frOf hmn b.1.pos, plus_frOf (Int.mul_pos hmn a.1.pos) (Int.mul_pos hmn b.1.pos)]
  unfold mixV
  have pa := a.1.pos
  have pb := b.1.pos
  refine frOf_eq (Int.mul_pos (Int.mul_pos hmn pa) (Int.mul_pos hmn pb)) (Int.mul_pos (Int.mul_pos hmn pa) pb) ?_
  generalize (shAt A x).1 = p
  generalize (shAt A x).2 = q
  generalize (shAt B x).1 = r
  generalize (shAt B x).2 = s
  grind
theorem mixS_names (A : Sh) (m n : Int) (B : Sh) (x : Str) : x ∈ (mixS A m n B).map (·.1) ↔ x ∈ A.map (·.1) ∨ x ∈ B.map (·.1) := by
  unfold mixS
  rw [mixOne_names, mixOne_names]
  simp
theorem mixS_nodup (A : Sh) (m n : Int) (B : Sh) : ((mixS A m n B).map (·.1)).Nodup := mixOne_nodup _ _ (mixOne_nodup _ _ List.nodup_nil)
theorem mixS_len (A : Sh) (m n : Int) (B : Sh) : (mixS A m n B).length ≤ A.length + B.length := by
  unfold mixS
  have h1 := mixOne_len (w := frOf m (m + n)) A []
  have h2 := mixOne_len (w := frOf n (m + n)) B (mixOne (frOf m (m + n)) [] A)
  rw [List.length_nil] at h1
  omega
/-- both, by d.update(e) -/
noncomputable def bothS (A B : Sh) : Sh := B.foldl (fun a p => putS a p.1 p.2) A
theorem bothS_len : ∀ (B A : Sh), (bothS A B).length ≤ A.length + B.length
  | [], _ => Nat.le_refl _
  | p :: B, A => by
    have h1 := bothS_len B (putS A p.1 p.2)
    have h2 := putS_len A p.1 p.2
    show (bothS (putS A p.1 p.2) B).length ≤ _
    rw [List.length_cons]
    omega
end L2
namespace L2
open PySem PySem.Spec PyProof.Rows
noncomputable def NZ (S : Sh) : Prop := ∀ p ∈ S, p.2 ≠ (0, 1)
end L2
namespace L2
end L2
namespace L2
open PySem PySem.Spec PyProof.Rows
/-! ### the lesser, quotients, sums -/
noncomputable abbrev ltF (f g : Int × Int) : Prop := f.1 * g.2 < g.1 * f.2
noncomputable def lessF (f g : Int × Int) : Int × Int := if ltF g f then g else f
noncomputable def quotF (f g : Int × Int) : Int × Int := frOf (f.1 * g.2) (f.2 * g.1)
noncomputable def sumF (l : List (Int × Int)) : Int × Int := l.foldl plusF (0, 1)
theorem less_cases (f g : Int × Int) : (lessF f g = f ∧ ¬ ltF g f) ∨ (lessF f g = g ∧ ltF g f) := by
  unfold lessF
  by_cases h : ltF g f
  · rw [if_pos h]; exact .inr ⟨rfl, h⟩
  · rw [if_neg h]; exact .inl ⟨rfl, h⟩
theorem sumF_snoc (l : List (Int × Int)) (f : Int × Int) : sumF (l ++ [f]) = plusF (sumF l) f := by
  unfold sumF
  rw [List.foldl_append]
  rfl
theorem sumF_take {l : List (Int × Int)} {i : Nat} {f : Int × Int} (h : l[i]? = some f) : sumF (l.take (i + 1)) = plusF (sumF (l.take i)) f := by
  rw [List.take_add_one, h, Option.toList_some, sumF_snoc]
/-- a part of one, with a bottom that divides D -/
structure PF (D : Int) (f : Int × Int) : Prop where
  ok : FrOk f
  nn : 0 ≤ f.1
  le : f.1 ≤ f.2
  dv : f.2 ∣ D
theorem cop_dvd {p q D z : Int} (h : Int.gcd p q = 1) (e : p * D = q * z) : q ∣ D := by
  have c : Nat.Coprime q.natAbs p.natAbs := Nat.Coprime.symm h
  have d : q.natAbs ∣ p.natAbs * D.natAbs := by
    rw [← Int.natAbs_mul, e, Int.natAbs_mul]
    exact Nat.dvd_mul_right _ _
  exact Int.natAbs_dvd_natAbs.mp (c.dvd_of_dvd_mul_left d)
theorem plus_dvd {f g : Int × Int} {D : Int} (hD : 0 < D) (hf : 0 < f.2) (hg : 0 < g.2) (h1 : f.2 ∣ D) (h2 : g.2 ∣ D) : (plusF f g).2 ∣ D := by
  obtain ⟨a, ea⟩ := h1
  obtain ⟨b, eb⟩ := h2
  have k := plusF_ok hf hg
  have c := fr_cross (f.1 * g.2 + g.1 * f.2) (f.2 * g.2)
  have c' : (plusF f g).1 * (f.2 * g.2) = (plusF f g).2 * (f.1 * g.2 + g.1 * f.2) := c
  refine cop_dvd (z := f.1 * a + g.1 * b) k.cop (Int.eq_of_mul_eq_mul_right (a := D) (by omega) ?_)
  generalize (plusF f g).1 = p at c' ⊢
  generalize (plusF f g).2 = q at c' ⊢
  have e1 : p * D * D = p * (f.2 * g.2) * (a * b) := by
    have : p * D * D = p * (f.2 * a) * (g.2 * b) := by rw [← ea, ← eb]
    rw [this]
    grind
  have e2 : q * (f.1 * a + g.1 * b) * D = q * (f.1 * a * (g.2 * b) + g.1 * b * (f.2 * a)) := by
    have : q * (f.1 * a + g.1 * b) * D = q * (f.1 * a * D + g.1 * b * D) := by grind
    rw [this]
    conv => lhs; rw [show f.1 * a * D = f.1 * a * (g.2 * b) by rw [← eb], show g.1 * b * D = g.1 * b * (f.2 * a) by rw [← ea]]
  rw [e1, e2, c']
  grind
theorem plus_le {f g : Int × Int} {k : Int} (hf : 0 < f.2) (hg : 0 < g.2) (h1 : f.1 ≤ k * f.2) (h2 : g.1 ≤ g.2) : (plusF f g).1 ≤ (k + 1) * (plusF f g).2 := by
  have c := fr_cross (f.1 * g.2 + g.1 * f.2) (f.2 * g.2)
  have c' : (plusF f g).1 * (f.2 * g.2) = (plusF f g).2 * (f.1 * g.2 + g.1 * f.2) := c
  have q0 := (plusF_ok hf hg).pos
  have bc := Int.mul_pos hf hg
  refine Int.le_of_mul_le_mul_right (a := f.2 * g.2) ?_ bc
  rw [c']
  have m1 : f.1 * g.2 ≤ k * f.2 * g.2 := Int.mul_le_mul_of_nonneg_right h1 (Int.le_of_lt hg)
  have m2 : g.1 * f.2 ≤ g.2 * f.2 := Int.mul_le_mul_of_nonneg_right h2 (Int.le_of_lt hf)
  have m3 : f.1 * g.2 + g.1 * f.2 ≤ (k + 1) * (f.2 * g.2) := by
    have : (k + 1) * (f.2 * g.2) = k * f.2 * g.2 + g.2 * f.2 := by grind
    omega
  have m4 := Int.mul_le_mul_of_nonneg_left m3 (Int.le_of_lt q0)
  have : (plusF f g).2 * ((k + 1) * (f.2 * g.2)) = (k + 1) * (plusF f g).2 * (f.2 * g.2) := by grind
  omega
structure SF (D k : Int) (f : Int × Int) : Prop where
  ok : FrOk f
  nn : 0 ≤ f.1
  le : f.1 ≤ k * f.2
  dv : f.2 ∣ D
theorem sumF_sf {D : Int} (hD : 0 < D) {l : List (Int × Int)} (h : ∀ f ∈ l, PF D f) : ∀ i, SF D (i : Nat) (sumF (l.take i))
  | 0 => ⟨nought_ok, Int.le_refl _, by simp [sumF], Int.one_dvd _⟩
  | i + 1 => by
    have ih := sumF_sf hD h i
    cases e : l[i]? with
    | none =>
      have hl : l.length ≤ i := List.getElem?_eq_none_iff.mp e
      rw [List.take_of_length_le (by omega)]
      rw [List.take_of_length_le hl] at ih
      refine ⟨ih.ok, ih.nn, ?_, ih.dv⟩
      have := ih.le
      have p := ih.ok.pos
      have : ((i + 1 : Nat) : Int) * (sumF l).2 = (i : Int) * (sumF l).2 + (sumF l).2 := by
        rw [Int.natCast_add, Int.add_mul]
        simp
      omega
    | some f =>
      have pf := h f (List.mem_of_getElem? e)
      rw [sumF_take e]
      exact ⟨plusF_ok ih.ok.pos pf.ok.pos, plus_nn ih.ok.pos pf.ok.pos ih.nn pf.nn, by
        have := plus_le (k := (i : Int)) ih.ok.pos pf.ok.pos ih.le pf.le
        rw [Int.natCast_add]
        exact this, plus_dvd hD ih.ok.pos pf.ok.pos ih.dv pf.dv⟩
theorem bd_dvd {n : Nat} {x D : Int} (hx : 0 < x) (hD : 0 < D) (h : x ∣ D) (b : Bd n D) : Bd n x := by
  have le := Int.le_of_dvd hD h
  refine Bd.of (Nat.lt_of_le_of_lt ?_ b.lt)
  omega
theorem bd_top {n : Nat} {x y k : Int} (hx : 0 ≤ x) (hk0 : 0 ≤ k) (hk : k ≤ 64) (h : x ≤ k * y) (hy : 0 < y) (b : Bd n y) : Bd (n + 7) x := by
  have h2 : x ≤ 64 * y := Int.le_trans h (Int.mul_le_mul_of_nonneg_right hk (Int.le_of_lt hy))
  have l := b.lt
  refine Bd.of ?_
  rw [Nat.pow_add]
  have : (2 : Nat) ^ 7 = 128 := by decide
  rw [this]
  omega
theorem SF.bd {D k : Int} {n : Nat} {f : Int × Int} (h : SF D k f) (hD : 0 < D) (b : Bd n D) (k0 : 0 ≤ k) (hk : k ≤ 64) : Bd (n + 7) f.1 ∧ Bd (n + 7) f.2 := by
  have b2 := bd_dvd h.ok.pos hD h.dv b
  exact ⟨bd_top h.nn k0 hk h.le h.ok.pos b2, b2.mono (by omega)⟩
theorem PF.bd {D : Int} {n : Nat} {f : Int × Int} (h : PF D f) (hD : 0 < D) (b : Bd n D) : Bd (n + 7) f.1 ∧ Bd (n + 7) f.2 :=
  SF.bd (k := 1) ⟨h.ok, h.nn, by have := h.le; omega, h.dv⟩ hD b (by decide) (by decide)
theorem frB_dvd {t b : Int} : frB t b ∣ b := ⟨_, (fr_b t b).symm⟩
end L2
namespace L2
open PySem PySem.Spec PyProof.Rows
theorem plus_prod {a b r : Int × Int} (ha : FrOk a) (hb : FrOk b) (hr : FrOk r) : plusF (prodF a r) (prodF b r) = prodF (plusF a b) r := by
  have e1 : prodF a r = frOf (a.1 * r.1) (a.2 * r.2) := rfl
  have e2 : prodF b r = frOf (b.1 * r.1) (b.2 * r.2) := rfl
  have e3 : plusF a b = frOf (a.1 * b.2 + b.1 * a.2) (a.2 * b.2) := rfl
  have pa := ha.pos
  have pb := hb.pos
  have pr := hr.pos
  have e4 : prodF (plusF a b) r = prodF (plusF a b) (frOf r.1 r.2) := by rw [frOf_self hr]
  rw [e4, e1, e2, e3, plus_frOf (Int.mul_pos pa pr) (Int.mul_pos pb pr), prod_frOf (Int.mul_pos pa pb) pr]
  refine frOf_eq (Int.mul_pos (Int.mul_pos pa pr) (Int.mul_pos pb pr)) (Int.mul_pos (Int.mul_pos pa pb) pr) ?_
  generalize a.1 = a1; generalize a.2 = a2; generalize b.1 = b1; generalize b.2 = b2; generalize r.1 = r1; generalize r.2 = r2
  grind
theorem nought_prod {r : Int × Int} (h : 0 < r.2) : prodF (0, 1) r = (0, 1) := by
  show frOf (0 * r.1) (1 * r.2) = (0, 1)
  rw [Int.zero_mul, Int.one_mul]
  exact frOf_zero h
theorem sum_ok : ∀ (l : List (Int × Int)), (∀ f ∈ l, FrOk f) → ∀ i, FrOk (sumF (l.take i)) := by
  intro l h i
  induction i with
  | zero => exact nought_ok
  | succ i ih =>
    cases e : l[i]? with
    | none =>
      have hl : l.length ≤ i := List.getElem?_eq_none_iff.mp e
      rw [List.take_of_length_le (by omega)]
      rw [List.take_of_length_le hl] at ih
      exact ih
    | some f =>
      rw [sumF_take e]
      exact plusF_ok ih.pos (h f (List.mem_of_getElem? e)).pos
theorem sum_prod {r : Int × Int} (hr : FrOk r) {l : List (Int × Int)} (h : ∀ f ∈ l, FrOk f) : ∀ i, sumF ((l.map fun f => prodF f r).take i) = prodF (sumF (l.take i)) r := by
  intro i
  induction i with
  | zero => exact (nought_prod hr.pos).symm
  | succ i ih =>
    cases e : l[i]? with
    | none =>
      have hl : l.length ≤ i := List.getElem?_eq_none_iff.mp e
      rw [List.take_of_length_le (by rw [List.length_map]; omega), List.take_of_length_le (by omega)]
      rw [List.take_of_length_le (by rw [List.length_map]; omega), List.take_of_length_le hl] at ih
      exact ih
    | some f =>
      have e2 : (l.map fun f => prodF f r)[i]? = some (prodF f r) := by rw [List.getElem?_map, e]; rfl
      rw [sumF_take e, sumF_take e2, ih]
      exact plus_prod (sum_ok l h i) (h f (List.mem_of_getElem? e)) hr
theorem sum_prod_all {r : Int × Int} (hr : FrOk r) {l : List (Int × Int)} (h : ∀ f ∈ l, FrOk f) : sumF (l.map fun f => prodF f r) = prodF (sumF l) r := by
  have := sum_prod hr h l.length
  rwa [List.take_of_length_le (by simp), List.take_length] at this
theorem quot_ok {f g : Int × Int} (hf : 0 < f.2) (hg : 0 < g.1) : FrOk (quotF f g) := frOf_ok _ (Int.mul_pos hf hg)
theorem prod_quot {f g : Int × Int} (hf : FrOk f) (hg : FrOk g) (g0 : 0 < g.1) : prodF g (quotF f g) = f := by
  have e : prodF g (quotF f g) = prodF (frOf g.1 g.2) (frOf (f.1 * g.2) (f.2 * g.1)) := by rw [frOf_self hg]; rfl
  have pf := hf.pos
  have pg := hg.pos
  rw [e, prod_frOf pg (Int.mul_pos pf g0)]
  conv => rhs; rw [← frOf_self hf]
  refine frOf_eq (Int.mul_pos pg (Int.mul_pos pf g0)) pf ?_
  grind
/-- the loss of one who holds f -/
noncomputable def lossF (f rest hold : Int × Int) : Int × Int := prodF f (quotF rest hold)
theorem loss_eq {f rest hold : Int × Int} (hf : FrOk f) (hr : 0 < rest.2) (h0 : 0 < hold.1) : lossF f rest hold = frOf (f.1 * rest.1 * hold.2) (f.2 * rest.2 * hold.1) := by
  have e : lossF f rest hold = prodF (frOf f.1 f.2) (frOf (rest.1 * hold.2) (rest.2 * hold.1)) := by rw [frOf_self hf]; rfl
  rw [e, prod_frOf hf.pos (Int.mul_pos hr h0), Int.mul_assoc, Int.mul_assoc]
theorem loss_le {f rest hold : Int × Int} (hf : FrOk f) (f0 : 0 ≤ f.1) (hr : 0 < rest.2) (h0 : 0 < hold.1) (le : ¬ ltF hold rest) : (lossF f rest hold).1 * f.2 ≤ f.1 * (lossF f rest hold).2 := by
  have e := loss_eq (f := f) (rest := rest) (hold := hold) hf hr h0
  have c := fr_cross (f.1 * rest.1 * hold.2) (f.2 * rest.2 * hold.1)
  have c' : (lossF f rest hold).1 * (f.2 * rest.2 * hold.1) = (lossF f rest hold).2 * (f.1 * rest.1 * hold.2) := by rw [e]; exact c
  have q0 : 0 < (lossF f rest hold).2 := by rw [e]; exact (frOf_ok _ (Int.mul_pos (Int.mul_pos hf.pos hr) h0)).pos
  have w0 := Int.mul_pos hr h0
  have le' : rest.1 * hold.2 ≤ rest.2 * hold.1 := by
    unfold ltF at le
    rw [Int.mul_comm rest.2]
    omega
  generalize (lossF f rest hold).1 = p at c' ⊢
  generalize (lossF f rest hold).2 = q at c' q0 ⊢
  refine Int.le_of_mul_le_mul_right (a := rest.2 * hold.1) ?_ w0
  have m := Int.mul_le_mul_of_nonneg_left le' (Int.mul_nonneg (Int.le_of_lt q0) f0)
  have e1 : p * f.2 * (rest.2 * hold.1) = q * f.1 * (rest.1 * hold.2) := by
    have : p * f.2 * (rest.2 * hold.1) = p * (f.2 * rest.2 * hold.1) := by grind
    rw [this, c']
    grind
  have e2 : f.1 * q * (rest.2 * hold.1) = q * f.1 * (rest.2 * hold.1) := by grind
  rw [e1, e2]
  exact m
theorem loss_pf {D : Int} {f rest hold : Int × Int} (hf : PF D f) (hr : FrOk rest) (r0 : 0 ≤ rest.1) (h2 : 0 < hold.2) (h0 : 0 < hold.1) (le : ¬ ltF hold rest) : PF (D * (quotF rest hold).2) (lossF f rest hold) := by
  have l := loss_le hf.ok hf.nn hr.pos h0 le
  have ok : FrOk (lossF f rest hold) := prodF_ok hf.ok.pos (quot_ok hr.pos h0).pos
  refine ⟨ok, ?_, ?_, ?_⟩
  · rw [loss_eq hf.ok hr.pos h0]
    exact frT_nn (Int.mul_nonneg (Int.mul_nonneg hf.nn r0) (Int.le_of_lt h2)) (Int.mul_pos (Int.mul_pos hf.ok.pos hr.pos) h0)
  · refine Int.le_of_mul_le_mul_right (a := f.2) ?_ hf.ok.pos
    refine Int.le_trans l ?_
    rw [Int.mul_comm (lossF f rest hold).2]
    exact Int.mul_le_mul_of_nonneg_right hf.le (Int.le_of_lt ok.pos)
  · exact Int.dvd_trans (frB_dvd (t := f.1 * (quotF rest hold).1)) (Int.mul_dvd_mul hf.dv (Int.dvd_refl _))
theorem loss_pos {f rest hold : Int × Int} (hf : FrOk f) (f0 : 0 < f.1) (hr : FrOk rest) (r0 : 0 < rest.1) (h2 : 0 < hold.2) (h0 : 0 < hold.1) : lossF f rest hold ≠ (0, 1) := by
  intro z
  have e := loss_eq (f := f) (rest := rest) (hold := hold) hf hr.pos h0
  have := frT_pos (Int.mul_pos (Int.mul_pos f0 r0) h2) (Int.mul_pos (Int.mul_pos hf.pos hr.pos) h0)
  rw [z] at e
  have e2 := congrArg Prod.fst e
  change 0 = frT _ _ at e2
  omega
theorem loss_zero {f rest hold : Int × Int} (hf : 0 < f.2) (hr : 0 < rest.2) (r0 : rest.1 = 0) (h0 : 0 < hold.1) : lossF f rest hold = (0, 1) := by
  unfold lossF quotF
  rw [r0, Int.zero_mul, frOf_zero (Int.mul_pos hr h0)]
  exact prod_nought hf
/-! ### who loses what -/
noncomputable def othS (S : Sh) (g k : Str) : Sh := S.filter fun p => decide (p.1 ≠ g ∧ p.1 ≠ k)
noncomputable def lossL (O : Sh) (lack : Int × Int) : Sh := if sumF (O.map (·.2)) = (0, 1) then [] else (O.map fun p => (p.1, lossF p.2 (lessF lack (sumF (O.map (·.2)))) (sumF (O.map (·.2))))).filter fun p => decide (p.2 ≠ (0, 1))
structure OthOk (D : Int) (O : Sh) : Prop where
  nd : (O.map (·.1)).Nodup
  pf : ∀ p ∈ O, PF D p.2
  nz : ∀ p ∈ O, p.2 ≠ (0, 1)
variable {D : Int} {O : Sh} {lack : Int × Int}
theorem OthOk.hold (h : OthOk D O) (hD : 0 < D) : SF D ((O.map (·.2)).length : Nat) (sumF (O.map (·.2))) := by
  have := sumF_sf hD (l := O.map (·.2)) (fun f hf => by
    obtain ⟨p, hp, rfl⟩ := List.mem_map.mp hf
    exact h.pf p hp) (O.map (·.2)).length
  rwa [List.take_length] at this
theorem rest_ok (h : OthOk D O) (hD : 0 < D) (hl : FrOk lack) (l0 : 0 ≤ lack.1) : FrOk (lessF lack (sumF (O.map (·.2)))) ∧ 0 ≤ (lessF lack (sumF (O.map (·.2)))).1 ∧ ¬ ltF (sumF (O.map (·.2))) (lessF lack (sumF (O.map (·.2)))) := by
  have s := h.hold hD
  rcases less_cases lack (sumF (O.map (·.2))) with ⟨e, n⟩ | ⟨e, n⟩
  · rw [e]; exact ⟨hl, l0, n⟩
  · rw [e]; exact ⟨s.ok, s.nn, by unfold ltF; omega⟩
theorem hold_pos (h : OthOk D O) (hD : 0 < D) (z : ¬ sumF (O.map (·.2)) = (0, 1)) : 0 < (sumF (O.map (·.2))).1 := by
  have s := h.hold hD
  rcases Int.lt_or_eq_of_le s.nn with a | a
  · exact a
  · exact absurd (frOk_zero s.ok a.symm) z
theorem lossL_pos (h : OthOk D O) (hD : 0 < D) (hl : FrOk lack) (l0 : 0 ≤ lack.1) (r0 : 0 < (lessF lack (sumF (O.map (·.2)))).1) : lossL O lack = O.map fun p => (p.1, lossF p.2 (lessF lack (sumF (O.map (·.2)))) (sumF (O.map (·.2)))) := by
  have r := rest_ok h hD hl l0
  have s := h.hold hD
  have hz : ¬ sumF (O.map (·.2)) = (0, 1) := fun z => by
    have le := r.2.2
    rw [z] at le r0
    unfold ltF at le
    apply le
    show 0 * _ < _ * 1
    omega
  have h0 := hold_pos h hD hz
  unfold lossL
  rw [if_neg hz]
  refine List.filter_eq_self.mpr fun p hp => ?_
  obtain ⟨x, hx, rfl⟩ := List.mem_map.mp hp
  have px := h.pf x hx
  have x0 : 0 < x.2.1 := by
    rcases Int.lt_or_eq_of_le px.nn with a | a
    · exact a
    · exact absurd (frOk_zero px.ok a.symm) (h.nz x hx)
  exact decide_eq_true (loss_pos px.ok x0 r.1 r0 s.ok.pos h0)
theorem lossL_zero (h : OthOk D O) (hD : 0 < D) (hl : FrOk lack) (l0 : 0 ≤ lack.1) (r0 : ¬ 0 < (lessF lack (sumF (O.map (·.2)))).1) : lossL O lack = [] := by
  have r := rest_ok h hD hl l0
  unfold lossL
  by_cases hz : sumF (O.map (·.2)) = (0, 1)
  · rw [if_pos hz]
  · rw [if_neg hz]
    have h0 := hold_pos h hD hz
    refine List.filter_eq_nil_iff.mpr fun p hp => ?_
    obtain ⟨x, hx, rfl⟩ := List.mem_map.mp hp
    rw [loss_zero (h.pf x hx).ok.pos r.1.pos (by omega) h0]
    simp
/-- the losses come to what lacks, or to all that they hold -/
theorem lossL_sum (h : OthOk D O) (hD : 0 < D) (hl : FrOk lack) (l0 : 0 ≤ lack.1) : sumF ((lossL O lack).map (·.2)) = lessF lack (sumF (O.map (·.2))) := by
  have r := rest_ok h hD hl l0
  by_cases r0 : 0 < (lessF lack (sumF (O.map (·.2)))).1
  · rw [lossL_pos h hD hl l0 r0, List.map_map]
    have hz : ¬ sumF (O.map (·.2)) = (0, 1) := fun z => by
      have le := r.2.2
      rw [z] at le r0
      unfold ltF at le
      apply le
      show 0 * _ < _ * 1
      omega
    have h0 := hold_pos h hD hz
    have s := h.hold hD
    have e : (O.map ((fun x => x.2) ∘ fun p => (p.1, lossF p.2 (lessF lack (sumF (O.map (·.2)))) (sumF (O.map (·.2)))))) = (O.map (·.2)).map fun f => prodF f (quotF (lessF lack (sumF (O.map (·.2)))) (sumF (O.map (·.2)))) := by
      rw [List.map_map]
      rfl
    rw [e, sum_prod_all (quot_ok r.1.pos h0) fun f hf => by
      obtain ⟨p, hp, rfl⟩ := List.mem_map.mp hf
      exact (h.pf p hp).ok]
    exact prod_quot r.1 s.ok h0
  · rw [lossL_zero h hD hl l0 r0]
    exact (frOk_zero r.1 (by omega)).symm
theorem lossL_names (h : OthOk D O) (hD : 0 < D) (hl : FrOk lack) (l0 : 0 ≤ lack.1) (r0 : 0 < (lessF lack (sumF (O.map (·.2)))).1) : (lossL O lack).map (·.1) = O.map (·.1) := by
  rw [lossL_pos h hD hl l0 r0, List.map_map]
  rfl
end L2
namespace L2
open PySem PySem.Spec PyProof.Rows
theorem bothS_at : ∀ (B A : Sh) (x : Str), (B.map (·.1)).Nodup → shAt (bothS A B) x = if x ∈ B.map (·.1) then shAt B x else shAt A x
  | [], A, x, _ => by rw [if_neg (by simp)]; rfl
  | p :: B, A, x, nd => by
    rw [List.map_cons, List.nodup_cons] at nd
    rw [show bothS A (p :: B) = bothS (putS A p.1 p.2) B from rfl, bothS_at B _ x nd.2, shAt_put, shAt_cons, List.map_cons]
    by_cases h : x ∈ B.map (·.1)
    · rw [if_pos h, if_pos (List.mem_cons_of_mem _ h), if_neg (fun z => nd.1 (by rw [z]; exact h))]
    · rw [if_neg h]
      by_cases e : x = p.1
      · rw [if_pos e, if_pos (by rw [e]; exact List.mem_cons_self ..), if_pos e.symm]
      · rw [if_neg e, if_neg (fun z => by
          rcases List.mem_cons.mp z with w | w
          · exact e w
          · exact h w)]
theorem putS_mem_iff (S : Sh) (x : Str) (f : Int × Int) (y : Str) : y ∈ (putS S x f).map (·.1) ↔ y ∈ S.map (·.1) ∨ y = x := by
  rw [putS_names]
  by_cases h : x ∈ S.map (·.1)
  · rw [if_pos h]
    exact ⟨.inl, fun z => z.elim id fun e => by rw [e]; exact h⟩
  · rw [if_neg h, List.mem_append, List.mem_singleton]
noncomputable def lowAll (acc L : Sh) : Sh := L.foldl (fun a p => putS a p.1 (minusF (shAt a p.1) p.2)) acc
theorem lowAll_snoc {acc L : Sh} {i : Nat} {p : Str × Int × Int} (h : L[i]? = some p) : lowAll acc (L.take (i + 1)) = putS (lowAll acc (L.take i)) p.1 (minusF (shAt (lowAll acc (L.take i)) p.1) p.2) := by
  unfold lowAll
  rw [List.take_add_one, h, Option.toList_some, List.foldl_append]
  rfl
theorem lowAll_at : ∀ (L acc : Sh) (x : Str), (L.map (·.1)).Nodup → shAt (lowAll acc L) x = if x ∈ L.map (·.1) then minusF (shAt acc x) (shAt L x) else shAt acc x
  | [], acc, x, _ => by rw [if_neg (by simp)]; rfl
  | p :: L, acc, x, nd => by
    rw [List.map_cons, List.nodup_cons] at nd
    rw [show lowAll acc (p :: L) = lowAll (putS acc p.1 (minusF (shAt acc p.1) p.2)) L from rfl, lowAll_at L _ x nd.2, shAt_put, shAt_cons, List.map_cons]
    by_cases h : x ∈ L.map (·.1)
    · have ne : ¬ x = p.1 := fun z => nd.1 (by rw [← z]; exact h)
      rw [if_pos h, if_pos (List.mem_cons_of_mem _ h), if_neg ne, if_neg (fun z => ne z.symm)]
    · rw [if_neg h]
      by_cases e : x = p.1
      · rw [if_pos e, if_pos (by rw [e]; exact List.mem_cons_self ..), if_pos e.symm, e]
      · rw [if_neg e, if_neg (fun z => by
          rcases List.mem_cons.mp z with w | w
          · exact e w
          · exact h w)]
theorem lowAll_names : ∀ (L acc : Sh) (x : Str), x ∈ (lowAll acc L).map (·.1) ↔ x ∈ acc.map (·.1) ∨ x ∈ L.map (·.1)
  | [], acc, x => by unfold lowAll; simp
  | p :: L, acc, x => by
    have ih := lowAll_names L (putS acc p.1 (minusF (shAt acc p.1) p.2)) x
    rw [show lowAll acc (p :: L) = lowAll (putS acc p.1 (minusF (shAt acc p.1) p.2)) L from rfl, ih, putS_mem_iff, List.map_cons, List.mem_cons]
    constructor
    · rintro ((a | a) | a)
      · exact .inl a
      · exact .inr (.inl a)
      · exact .inr (.inr a)
    · rintro (a | a | a)
      · exact .inl (.inl a)
      · exact .inl (.inr a)
      · exact .inr a
theorem lowAll_nodup : ∀ (L acc : Sh), (acc.map (·.1)).Nodup → ((lowAll acc L).map (·.1)).Nodup
  | [], _, h => h
  | p :: L, acc, h => lowAll_nodup L (putS acc p.1 (minusF (shAt acc p.1) p.2)) (putS_nodup h ..)
theorem lowAll_len : ∀ (L acc : Sh), (lowAll acc L).length ≤ acc.length + L.length
  | [], _ => Nat.le_refl _
  | p :: L, acc => by
    have h1 := lowAll_len L (putS acc p.1 (minusF (shAt acc p.1) p.2))
    have h2 := putS_len acc p.1 (minusF (shAt acc p.1) p.2)
    show (lowAll (putS acc p.1 (minusF (shAt acc p.1) p.2)) L).length ≤ _
    rw [List.length_cons]
    omega
/-! ### the shares behind a part pressed -/
noncomputable def gvn (S : Sh) (g : Str) (f : Int × Int) : Int × Int := lessF f (shAt S g)
noncomputable def lck (S : Sh) (g : Str) (f : Int × Int) : Int × Int := minusF f (gvn S g f)
noncomputable def lost (S : Sh) (g k : Str) (f : Int × Int) : Sh := lossL (othS S g k) (lck S g f)
noncomputable def rst (S : Sh) (g k : Str) (f : Int × Int) : Int × Int := lessF (lck S g f) (sumF ((othS S g k).map (·.2)))
noncomputable def prsA (S : Sh) (g k : Str) (f : Int × Int) : Sh := lowAll (putS S g (minusF (shAt S g) (gvn S g f))) (lost S g k f)
noncomputable def prsT (S : Sh) (g k : Str) (f : Int × Int) : Sh := putS (prsA S g k f) k (plusF (shAt (prsA S g k f) k) (plusF (gvn S g f) (sumF ((lost S g k f).map (·.2)))))
section
variable {D : Int} {S : Sh} {g k : Str} {f : Int × Int}
theorem minus_self {f : Int × Int} (h : 0 < f.2) : minusF f f = (0, 1) := by
  show frOf (f.1 * f.2 - f.1 * f.2) (f.2 * f.2) = (0, 1)
  rw [Int.sub_self]
  exact frOf_zero (Int.mul_pos h h)
theorem othS_len (S : Sh) (g k : Str) : (othS S g k).length ≤ S.length := List.length_filter_le ..
theorem othS_mem {x : Str} (h : x ∈ (othS S g k).map (·.1)) : x ∈ S.map (·.1) ∧ x ≠ g ∧ x ≠ k := by
  obtain ⟨p, hp, rfl⟩ := List.mem_map.mp h
  have := List.mem_filter.mp hp
  have c := of_decide_eq_true this.2
  exact ⟨List.mem_map_of_mem this.1, c.1, c.2⟩
theorem othS_at (nd : (S.map (·.1)).Nodup) {x : Str} (h : x ∈ (othS S g k).map (·.1)) : shAt (othS S g k) x = shAt S x := by
  obtain ⟨p, hp, rfl⟩ := List.mem_map.mp h
  rw [shAt_of_mem (S := othS S g k) (nd.sublist (List.filter_sublist.map _)) hp, shAt_of_mem nd (List.mem_filter.mp hp).1]
/-- the share of each behind it -/
noncomputable def prsV (S : Sh) (g k : Str) (f : Int × Int) (x : Str) : Int × Int :=
  if x = k then plusF (shAt S k) (plusF (gvn S g f) (rst S g k f)) else if x = g then minusF (shAt S g) (gvn S g f) else
    if x ∈ (othS S g k).map (·.1) ∧ 0 < (rst S g k f).1 then minusF (shAt S x) (lossF (shAt S x) (rst S g k f) (sumF ((othS S g k).map (·.2)))) else shAt S x
noncomputable def InP (S : Sh) (g k x : Str) : Prop := x ∈ S.map (·.1) ∨ x = g ∨ x = k
end
end L2
namespace L2
open PySem PySem.Spec PyProof.Rows
theorem othS_snoc {S : Sh} {g k : Str} {i : Nat} {p : Str × Int × Int} (h : S[i]? = some p) : othS (S.take (i + 1)) g k = othS (S.take i) g k ++ (if p.1 ≠ g ∧ p.1 ≠ k then [p] else []) := by
  unfold othS
  rw [List.take_add_one, h, Option.toList_some, List.filter_append]
  congr 1
  by_cases z : p.1 ≠ g ∧ p.1 ≠ k
  · rw [if_pos z, List.filter_cons, if_pos (by simpa using z)]
    rfl
  · rw [if_neg z, List.filter_cons, if_neg (by simpa using z)]
    rfl
end L2
namespace L2
open PySem PySem.Spec PyProof.Rows
section
variable {D : Int} {S : Sh} {g k : Str} {f : Int × Int}
end
end L2
namespace L2
open PySem PySem.Spec PyProof.Rows
end L2
namespace L2
open PySem PySem.Spec PyProof.Rows
theorem wOf_le {N : Int} {ws : Ws} (h : WsOk N ws) : ∀ p ∈ ws, p.2 ≤ totW ws := by
  intro p hp
  unfold totW
  have nn : ∀ q ∈ ws, 0 ≤ q.2 := fun q hq => Int.le_of_lt (h.ok q hq).2.1
  clear h
  induction ws with
  | nil => cases hp
  | cons q ws ih =>
    rw [List.map_cons, List.sum_cons]
    have s0 : 0 ≤ (ws.map (·.2)).sum := by
      clear ih hp
      induction ws with
      | nil => simp
      | cons r ws ih2 =>
        rw [List.map_cons, List.sum_cons]
        have h1 := nn r (by simp)
        have h2 := ih2 fun x hx => nn x (by
          rcases List.mem_cons.mp hx with a | a
          · rw [a]; simp
          · simp [a])
        omega
    have q0 := nn q (List.mem_cons_self ..)
    rcases List.mem_cons.mp hp with e | e
    · subst e; omega
    · have := ih e fun x hx => nn x (List.mem_cons_of_mem _ hx)
      omega
theorem Owned.pf {S : Sh} (h : Owned 10000000000000000000000000000000000000000000000000000000000 S) : ∃ D : Int, 0 < D ∧ Bd 240 D ∧ (∀ p ∈ S, PF D p.2) ∧ ∀ p ∈ S, ¬ FIN < p.2.2 := by
  obtain ⟨ws, ss, ok, ⟨w1, w7⟩, pm, so, rfl⟩ := h.ex
  have tw := totW_le fun p hp => (ok.ok p hp).2
  have t0 : 0 < totW ws := by omega
  have t1 : totW ws ≤ 70000000000000000000000000000000000000000000000000000000000 := by
    have := Int.mul_le_mul_of_nonneg_left (c := (10000000000000000000000000000000000000000000000000000000000 : Int)) (show (ws.length : Int) ≤ 7 by omega) (by decide)
    omega
  have bt : Bd 240 (totW ws) := Bd.of (by
    have e : (2 : Nat) ^ 240 = 1766847064778384329583297500742918515827483896875618958121606201292619776 := by decide
    rw [e]
    omega)
  have all : ∀ p ∈ ownS ws ss, PF (totW ws) p.2 := by
    intro p hp
    unfold ownS at hp
    obtain ⟨x, hx, rfl⟩ := List.mem_map.mp hp
    obtain ⟨_, w, hw, e1, e2⟩ := val_in (pm.mem_iff.mp hx)
    have w0 := (ok.ok w hw).2.1
    have wl := wOf_le ok w hw
    rw [e2] at w0 wl
    refine ⟨frOk_fr _ t0, Int.le_of_lt (frT_pos w0 t0), ?_, frB_dvd⟩
    have g := gcd_posR (t := wOf ws x) t0
    refine Int.le_of_mul_le_mul_right (a := (Int.gcd (wOf ws x) (totW ws) : Int)) ?_ g
    show frT _ _ * _ ≤ frB _ _ * _
    rw [fr_t, fr_b]
    exact wl
  refine ⟨totW ws, t0, bt, all, fun p hp => ?_⟩
  have := Int.le_of_dvd t0 (all p hp).dv
  unfold FIN
  omega
end L2
namespace L2
open PySem PySem.Spec PyProof.Rows
/-! ### columns as keys: tuples of tuples of ints and texts -/
section
variable {P : Program} {w : World}
variable {A : Around} {E : Value → Shared → Prop} {s : Shared}
end
end L2
namespace L2
open PySem PySem.Spec PyProof.Rows
section
variable {P : Program} {w : World} {A : Around} {E : Value → Shared → Prop} {s : Shared}
end
end L2
namespace L2
open PySem PySem.Spec PyProof.Rows
/-! ### dicts by columns -/
section
variable {X : Cx} {pins : List (Addr × Obj)} {σ : St} {H : Hp} {s : Shared}
end
section
variable {X : Cx} {o i e f value : Expr} {td ty tv tx : TE} {pos pos' apos cpos : Pos}
end
end L2
namespace L2
open PySem PySem.Spec PyProof.Rows
section
variable {P : Program} {w : World} {A : Around} {E : Value → Shared → Prop} {s : Shared} {it d : Addr} {i ep : Nat} {od : Obj} {es : Array DictEntry}
end
section
variable {X : Cx} {tg : Expr}
end
end L2
namespace PySem
namespace F
end F
section
variable {prog : Program} {w : World} {A : Around} {E : Value → Shared → Prop} {s : Shared} {r l : Addr} {items : Array Value}
end
end PySem
namespace PySem
section
variable {prog : Program} {w : World} {A : Around} {E : Value → Shared → Prop} {s : Shared} {r l : Addr} {items : Array Value}
end
end PySem
namespace L2
open PySem PySem.Spec PyProof.Rows
section
variable {X : Cx}
end
end L2
namespace L2
open PySem PySem.Spec PyProof.Rows
open LM (lowN)
/-! ### strips -/
/-! ### the pairs put together by columns -/
end L2

namespace L2
open PySem PySem.Spec PyProof.Rows
open LM (lowN)
end L2
namespace L2
open PySem PySem.Spec PyProof.Rows
section
variable {X : Cx} {o i e f value : Expr} {td ty tv tx : TE} {pos pos' apos cpos : Pos} {P : Program} {w : World} {K : PySem.W.Frag}
end
end L2
namespace L2
open PySem PySem.Spec PyProof.Rows
end L2
namespace L2
open PySem PySem.Spec PyProof.Rows
/-! ### burdens, as they lie -/
end L2
namespace L2
open PySem PySem.Spec PyProof.Rows
open LM (lowN)
/-! ### the strips of a ground, cell by cell -/
/-! ### a ground, as it lies: a dict of cells with columns -/
end L2
namespace L2
open PySem PySem.Spec PyProof.Rows
end L2
namespace L2
open PySem PySem.Spec PyProof.Rows My
end L2
namespace L2
open PySem PySem.Spec PyProof.Rows
end L2
namespace L2
open PySem PySem.Spec PyProof.Rows
end L2
namespace L2
open PySem PySem.Spec PyProof PyProof.Rows
/-! ### max(xs, default=d) of a list of ints -/
section
variable {prog : Program} {w : World} {A : Around} {R : Result → Shared → Prop} {I S : Addr} {fp wr : List Addr} {n : Nat} {P : Nat → Value → Prop} {St : Nat → Heap → Prop} {kw : List (Str × Value)} {bt : Nat → Nat → Bool}
end
section
variable {X : Cx} {e d : Expr} {t : TA} {td : TE} {p kp pos : Pos}
end
end L2
namespace L2
open PySem PySem.Spec PyProof.Rows
end L2
namespace L2
open PySem PySem.Spec PyProof.Rows
end L2
namespace L2
open PySem PySem.Spec PyProof.Rows
end L2
namespace L2
open PySem PySem.Spec PyProof.Rows
end L2
namespace L2
open PySem PySem.Spec PyProof.Rows
section
variable {P : Program} {w : World} {A : Around} {E : Value → Shared → Prop} {s : Shared} {it a : Addr} {its : Array Value} {i : Nat}
/-- a tuple's walk, asked for its next from within: one comes -/
theorem nx_tup {Q : Value → Shared → Prop} {x : Value} (st : s.heap.IsTupleIter it a i) (g : s.heap.IsTuple a its) (hx : its[i]? = some x)
    (q : ∀ h', h'.IsTupleIter it a (i + 1) → Heap.SameBut it s.heap h' → Q x { s with heap := h' }) : wpAny (model P w) A (Builtin.SmallTypes.nextOf (.ref it)) Q E s := by
  obtain ⟨oi, gi, ci, di⟩ := id st
  obtain ⟨ot, gt, _, n, dt⟩ := g
  unfold Builtin.SmallTypes.nextOf
  refine wpAny_bind (wpAny_callSpecial?_slot (name := Str.ofString "__next__") st.typeIs F.slot_tuple_iterator_next (wpAny_call_entry F.slot_tuple_iterator_next st.typeIs F.entry_tuple_iterator_next ?_ (F.args_tuple_iterator_next_1 _)))
  show wpAny _ _ (field (.ref it) 0 >>= _) _ _ s
  refine wpAny_bind (wpAny_field gi di (x := .ref a) rfl ?_)
  show wpAny _ _ (if (Value.ref a == Value.none) = true then _ else _) _ _ s
  rw [if_neg (show ¬ ((Value.ref a == Value.none) = true) from Bool.false_ne_true)]
  show wpAny _ _ (field (.ref it) 1 >>= _) _ _ s
  refine wpAny_bind (wpAny_field gi di (x := .int i 0) rfl ?_)
  show wpAny _ _ (seqItems? (.ref a) >>= _) _ _ s
  refine wpAny_bind (wpAny_seqItems gt dt ?_)
  simp only [Int.toNat_natCast, hx]
  refine wpAny_bind (wpAny_setField gi di (by simp) (wpAny_pure ⟨x, rfl, wpAny_pure (q _ ?_ (Heap.SameBut.update ..))⟩))
  refine ⟨_, Heap.get?_update_self _ gi (Obj.isFreed_of_fields (Obj.data_mapFields di _)), (Obj.cls_mapFields ..).trans ci, ?_⟩
  rw [Obj.data_mapFields di]
  simp [rawInt]
/-- .. none is left -/
theorem nx_tup0 {Q : Value → Shared → Prop} (hh : A.handled = none) (st : s.heap.IsTupleIter it a i) (g : s.heap.IsTuple a its) (hx : its[i]? = none)
    (q : ∀ h' e, Heap.ExtBut it s.heap h' → (∃ o, h'.get? e = some o ∧ o.cls = .type "StopIteration") → E (.ref e) { s with heap := h' }) : wpAny (model P w) A (Builtin.SmallTypes.nextOf (.ref it)) Q E s := by
  obtain ⟨oi, gi, ci, di⟩ := id st
  obtain ⟨ot, gt, _, n, dt⟩ := g
  unfold Builtin.SmallTypes.nextOf
  refine wpAny_bind (wpAny_callSpecial?_slot (name := Str.ofString "__next__") st.typeIs F.slot_tuple_iterator_next (wpAny_call_entry F.slot_tuple_iterator_next st.typeIs F.entry_tuple_iterator_next ?_ (F.args_tuple_iterator_next_1 _)))
  show wpAny _ _ (field (.ref it) 0 >>= _) _ _ s
  refine wpAny_bind (wpAny_field gi di (x := .ref a) rfl ?_)
  show wpAny _ _ (if (Value.ref a == Value.none) = true then _ else _) _ _ s
  rw [if_neg (show ¬ ((Value.ref a == Value.none) = true) from Bool.false_ne_true)]
  show wpAny _ _ (field (.ref it) 1 >>= _) _ _ s
  refine wpAny_bind (wpAny_field gi di (x := .int i 0) rfl ?_)
  show wpAny _ _ (seqItems? (.ref a) >>= _) _ _ s
  refine wpAny_bind (wpAny_seqItems gt dt ?_)
  simp only [Int.toNat_natCast, hx]
  first
    | refine wpAny_bind (wpAny_rule (wpAny_bind (wpAny_setField gi di (by simp) (wpAny_bind (wpAny_letGo ?_)))))
    | refine wpAny_bind (wpAny_rule (wpAny_bind (wpAny_setField gi di (by simp) ?_)))
    | refine wpAny_bind (wpAny_setField gi di (by simp) ?_)
  show wpAny _ _ (newExc (.type "StopIteration") [] >>= _) _ _ _
  refine wpAny_bind ?_
  simp only [newExc, newTuple]
  refine wpAny_bind (wpAny_newObj_type ?_ (by size_fits))
  refine wpAny_bind (m := firstArgMember _ _) (wpAny_of_eq (a := Value.none) (by first | rfl | (simp only [firstArgMember]; rfl)) (wpAny_newObj_type ?_ (by size_fits)))
  simp only [raiseNew]
  refine wpAny_bind (wpAny_handled ?_)
  first | rw [show A.in1.handled = none from hh] | rw [hh]
  refine wpAny_bind (wpAny_pure (wpAny_throw ?_))
  exact q _ _ (((Heap.SameBut.update ..).extBut.push _).push _) ⟨_, Heap.get?_push_size _ rfl, rfl⟩
theorem drawsT (hh : A.handled = none) (ne : a ≠ it) : Draws P w A it [it, a] its.size (fun i x => its[i]? = some x) (fun i h => h.IsTupleIter it a i ∧ h.IsTuple a its) where
  live := fun i h st => by
    obtain ⟨⟨o, e, _⟩, _⟩ := st
    exact ⟨o, e⟩
  frame := fun i h h' st k => ⟨st.1.at fun o e => k it (by simp) o e, by
    obtain ⟨o, e, r⟩ := st.2
    exact ⟨o, k a (by simp) o e, r⟩⟩
  item := fun i s Q E hi st q => nx_tup st.1 st.2 (Array.getElem?_eq_getElem hi) fun h' st' sb => q _ h' s.toks (Array.getElem?_eq_getElem hi) ⟨st', by
    obtain ⟨o, e, r⟩ := st.2
    exact ⟨o, (sb.2 a ne).trans e, r⟩⟩ sb
  done := fun s Q E st q => nx_tup0 hh st.1 st.2 (Array.getElem?_eq_none (Nat.le_refl _)) q
end
section
variable {X : Cx} {pins : List (Addr × Obj)} {σ : St} {H : Hp} {s : Shared} {h' : Heap}
end
section
variable {X : Cx} {elts : List Expr} {x1 : Nat} {tp : Pos}
end
end L2
namespace L2
open PySem PySem.Spec PyProof.Rows
section
variable {prog : Program} {w : World} {A : Around} {E : Value → Shared → Prop} {s : Shared}
end
section
variable {X : Cx}
end
end L2
namespace L2
open PySem PySem.Spec PyProof.Rows LM
end L2
namespace L2
open PySem PySem.Spec PyProof.Rows
end L2
namespace L2
open PySem PySem.Spec PyProof.Rows
section
variable {K : PySem.W.Frag} {H6 H H' : Hp} {lb dd dl : Addr} {bs : List V} {kd kl : List (Key × V)} {B : List Col} {fD fL : Nat → Option Col}
end
end L2
namespace L2
open PySem PySem.Spec PyProof.Rows
section
variable {X : Cx}
end
end L2
namespace L2
open PySem PySem.Spec PyProof.Rows
end L2
namespace L2
open PySem PySem.Spec PyProof.Rows
section
variable {K : PySem.W.Frag} {H H' : Hp}
end
end L2
namespace L2
open PySem PyProof.Rows
section
variable {prog : Program} {w : World} {A : Around} {E : Value → Shared → Prop} {s : Shared}
end
end L2
namespace L2
open PySem PyProof.Rows
end L2
namespace L2
open PySem PyProof.Rows
section
variable {prog : Program} {w : World} {A : Around} {E : Value → Shared → Prop} {s : Shared}
end
end L2
namespace L2
open PySem PyProof.Rows
end L2
namespace L2
open PySem PyProof.Rows
section
variable {prog : Program} {w : World} {A : Around} {E : Value → Shared → Prop} {s : Shared}
end
end L2
namespace L2
open PySem PyProof.Rows
section
variable {prog : Program} {w : World} {A : Around} {E : Value → Shared → Prop} {s : Shared} {a₀ : Array Keyed} {z : SortSt} {lo : Nat}
end
end L2
namespace L2
open PySem PyProof.Rows
section
variable {prog : Program} {w : World} {A : Around} {E : Value → Shared → Prop} {s : Shared} {a₀ : Array Keyed} {z : SortSt} {lo : Nat}
end
end L2
namespace L2
open PySem PyProof.Rows
section
variable {prog : Program} {w : World} {A : Around} {E : Value → Shared → Prop} {s : Shared} {a₀ : Array Keyed}
end
end L2
namespace L2
open PySem PyProof.Rows
section
variable {prog : Program} {w : World} {A : Around} {E : Value → Shared → Prop} {s : Shared} {a₀ : Array Keyed}
end
end L2
namespace L2
open PySem PySem.Spec PyProof.Rows
section
variable {prog : Program} {w : World} {A : Around} {E : Value → Shared → Prop} {s : Shared} {D kS : Addr} {vs : List Value} {kz : List Int} {ky : List Value} {c1 c2 : Nat} {P : PySem.Fin → Shared → Prop}
end
section
variable {X : Cx} {k : Nat} {f : Addr} {fd : FuncData} {ps : List Str} {sp : Sp}
end
end L2
namespace L2
open PySem PySem.Spec PyProof.Rows LM
end L2
namespace L2
open PySem PySem.Spec PyProof.Rows LM
section
variable {X : Cx} {pins : List (Addr × Obj)} {σ : St} {H : Hp} {s : Shared}
theorem keys_of {P : Program} {w : World} {ws : List (Key × Value)} : ∀ {kvs : List (Key × V)} {us : List Value}, KV kvs ws → us.length = ws.length → (∀ (j : Nat) (v : Value), us[j]? = some v → ∃ k x, ws[j]? = some (k, x) ∧ (mixKind P w).is k v = true) → Vals (kvs.map fun q => kV q.1) us := by
  intro kvs us r
  induction r generalizing us with
  | nil =>
    intro hl _
    cases us with
    | nil => exact .nil
    | cons _ _ => cases hl
  | @cons kv wv _ _ a _ ih =>
    intro hl h
    cases us with
    | nil => cases hl
    | cons u us =>
      obtain ⟨k, x, e, hk⟩ := h 0 u rfl
      have e' : wv = (k, x) := by simpa using e
      refine .cons ?_ (ih (by simpa using hl) fun j v hv => by
        obtain ⟨k', x', e1, e2⟩ := h (j + 1) v (by simpa using hv)
        exact ⟨k', x', by simpa using e1, e2⟩)
      have e3 : kv.1 = k := by rw [a.1, e']
      show RelV (kV kv.1) u
      rw [e3]
      exact rel_key hk
/-- list(d) -/
theorem call_listD (hc : X.calm = true) : CallR X (.type "list") (fun xs H Q => ∃ d kvs, xs = [.ref d] ∧ Rd H d (.dK kvs) ∧ ∀ l, H l = none → Q (.ref l) (upd H l (.lst (kvs.map fun q => kV q.1)))) := by
  intro pins s σ H xs us Q I r h
  obtain ⟨d, kvs, rfl, hx, q⟩ := h
  obtain ⟨u, rfl, ru⟩ := vals1 r
  cases ru
  have ho : ObjOk X.prog X.w H s.heap d (.dK kvs) := by
    rcases hx with hx | ⟨o, hx⟩
    · exact I.hok d _ hx
    · exact (I.hok d _ hx).2
  obtain ⟨hz, hs, ws, rv, hD⟩ := ho
  obtain ⟨ep, hat⟩ := hD.dictAt
  have hl := rv.len
  refine PySem.W.kdl_call (PySem.W.kdl_dict (knd := mixKind X.prog X.w) (kvs := ws) (ep := ep) hs) (I.ok.hd hc) hat (by omega) fun h' tk acc c' hk hS hacc => ?_
  have al : acc.toList.length = ws.length := by rw [Array.length_toList, hacc.1]
  refine ⟨.ref s.heap.objs.size, _, I.laid (t' := tk) (o := .lst (kvs.map fun q => kV q.1)) hk (Nat.le_refl _) ⟨by rw [List.length_map]; exact hz, acc.toList, c', keys_of rv al fun j v hv => hacc.2 j v (by rw [← Array.getElem?_toList]; exact hv), by simpa using hS⟩, rfl, q _ (I.hok.fresh (Nat.le_refl _))⟩
end
/-- a comprehension over a dict -/
theorem compD {d : Addr} {o : Obj} {kvs : List (Key × V)} {g : TG} {tt : TT} {te : TE} {σ0 : St} {Q : Hp → Prop} {D : Addr} {H : Hp} (Pv : Nat → List V → Hp → Prop) (h0 : Pv 0 [] H) (hl : ∀ i acc H, i ≤ kvs.length → Pv i acc H → H d = some (.frz o (.dK kvs)))
    (hs : ∀ i k v acc H2, kvs[i]? = some (k, v) → Pv i acc H2 → g (kV k) σ0 H2 fun σ2 H4 => tt σ2 H4 fun b H5 =>
      if b = true then te σ2 H5 fun y H6 => H6 D = some (.lst acc) ∧ acc.length < sizeLine ∧ Pv (i + 1) (acc ++ [y]) (upd H6 D (.lst (acc ++ [y]))) else Pv (i + 1) acc H5)
    (hd : ∀ acc H2, Pv kvs.length acc H2 → Q H2) :
    ∃ W : Nat → Nat → List V → Hp → Prop, (∃ m, W 0 m [] H) ∧ ∀ i m acc H2, W i m acc H2 →
      ((Itd d o kvs).stop i H2 ∧ Q H2) ∨ ((Itd d o kvs).go i H2 ∧ ∃ N : List V → Hp → Prop, (∀ acc' H', N acc' H' → ∃ m', m' < m ∧ W (i + 1) m' acc' H') ∧ ∀ x H3, (Itd d o kvs).yld i H2 x H3 → g x σ0 H3 fun σ2 H4 => tt σ2 H4 fun b H5 =>
        if b = true then te σ2 H5 fun y H6 => H6 D = some (.lst acc) ∧ acc.length < sizeLine ∧ N (acc ++ [y]) (upd H6 D (.lst (acc ++ [y]))) else N acc H5) := by
  refine ⟨fun i m acc H => m = kvs.length - i ∧ i ≤ kvs.length ∧ Pv i acc H, ⟨kvs.length, by simp, Nat.zero_le _, h0⟩, ?_⟩
  rintro i m acc H2 ⟨rfl, hi, p⟩
  have q := hl i acc H2 hi p
  by_cases hlt : i < kvs.length
  · refine .inr ⟨⟨q, hlt⟩, Pv (i + 1), fun acc' H' p' => ⟨kvs.length - (i + 1), by omega, rfl, hlt, p'⟩, fun x H3 y => ?_⟩
    obtain ⟨e, k, v, hk, rfl⟩ := y
    subst e
    exact hs i k v acc _ hk p
  · have e : i = kvs.length := by omega
    subst e
    exact .inl ⟨⟨q, Nat.le_refl _⟩, hd acc H2 p⟩
end L2
namespace L2
open PySem PySem.Spec PyProof.Rows LM
end L2
namespace L2
open PySem PySem.Spec PyProof.Rows LM
end L2
namespace L2
open PySem PySem.Spec PyProof.Rows LM
end L2
namespace L2
open PySem PySem.Spec PyProof.Rows
end L2
namespace L2
open PySem PySem.Spec PyProof.Rows LM
end L2
namespace L2
open PySem PySem.Spec PyProof.Rows
/-- the signs of a text -/
noncomputable def Its (x : Str) : It := ⟨fun i _ => i < x.cps.size, fun i H v H' => H' = H ∧ ∃ c, x.cps[i]? = some c ∧ v = .str ⟨#[c]⟩, fun i _ => x.cps.size ≤ i⟩
theorem turn_strA {P : Program} {w : World} {K : PySem.W.Frag} {tg : Expr} (it : Addr) (x : Str) (t : Tok) : Turn P w K tg (Its x) [it] it (fun i h => h.IsStrIter it "str_ascii_iterator" x t i) where
  mem := by simp
  obj := fun i h st b hb => by
    have e : b = it := by simpa using hb
    subst e
    obtain ⟨o, e, c, d⟩ := st
    exact ⟨o, e, fun v z => by rw [d] at z; cases z⟩
  keep := fun i h h' st k => let ⟨o, ho, r⟩ := st; ⟨o, k it (by simp) o ho, r⟩
  item := by
    intro X hP hw hK hc i pins s σ H E I hf st hg
    subst hP hw hK
    obtain ⟨f0, f1, f2, f3, f4, f5⟩ := hf it (by simp)
    have W := Walks.strAscii (prog := X.prog) (w := X.w) (I.ok.hd hc) it x t
    refine W.item i s _ _ hg st fun v h' tk hv st' kk => ?_
    obtain ⟨c, u, hcx, rfl⟩ := hv
    have I1 : Inv X pins σ H { s with heap := h', toks := tk } := I.turned (fun b o hb e => kk b o (by simpa using hb) e) f0 f1 f3 f4 f5
    obtain ⟨o, e, cc, dd⟩ := id st'
    exact ⟨_, rfl, go_of (s := { s with heap := h', toks := tk }) e cc dd (by decide) ⟨.str ⟨#[c]⟩, H, I1, ⟨u, rfl⟩, ⟨rfl, c, hcx, rfl⟩, st', fun b hb => (hf b hb).1⟩⟩
  done := by
    intro X hP hw hK hc i pins s σ H E I hf st hg
    subst hP hw hK
    obtain ⟨f0, f1, f2, f3, f4, f5⟩ := hf it (by simp)
    have hg' : x.cps.size ≤ i := hg
    exact wpAny_pyNext_ascii_end (I.ok.hd hc) st (by simp; omega) fun h' eb => ⟨rfl, I.turned (t' := s.toks) (fun b o hb e => eb b o hb e) f0 f1 f3 f4 f5⟩
  self := fun _ _ _ _ _ st h => wpAny_pyIter_striter_ascii st h
section
variable {X : Cx} {tg : Expr}
noncomputable def iStr (tl : TE) : TI := fun σ H R => tl σ H fun v H1 => ∃ x : Str, v = .str x ∧ x.cps.all (· < 128) = true ∧ R (Its x) H1
/-- for c in x, x a text of plain signs -/
theorem pi_str {l : Expr} {tl : TE} (hl : PE X l tl) : PI X tg l (iStr tl) := by
  intro pins s σ H R I h
  refine thn (hl pins s σ H _ I h) fun v s1 ⟨x, H1, I1, r1, q1⟩ => ?_
  obtain ⟨y, e, ha, q⟩ := q1
  subst e
  obtain ⟨t, rfl⟩ := r1
  refine wpAny_pyIter_ascii ha ?_
  refine ⟨s1.heap.objs.size, [s1.heap.objs.size], _, _, H1, rfl, I1.kept (t' := s1.toks) fun b o e => Heap.get?_push_of_some _ e, turn_strA _ y t, ⟨_, Heap.get?_push_size _ rfl, rfl, rfl⟩, fun b hb => ?_, q⟩
  have e : b = s1.heap.objs.size := by simpa using hb
  subst e
  exact I1.fpOk (Nat.le_refl _) (I1.hok.fresh (Nat.le_refl _))
theorem compS {x : Str} {g : TG} {tt : TT} {te : TE} {σ0 : St} {Q : Hp → Prop} {D : Addr} {H : Hp} (Pv : Nat → List V → Hp → Prop) (h0 : Pv 0 [] H)
    (hs : ∀ i c acc H2, x.cps[i]? = some c → Pv i acc H2 → g (.str ⟨#[c]⟩) σ0 H2 fun σ2 H4 => tt σ2 H4 fun b H5 =>
      if b = true then te σ2 H5 fun y H6 => H6 D = some (.lst acc) ∧ acc.length < sizeLine ∧ Pv (i + 1) (acc ++ [y]) (upd H6 D (.lst (acc ++ [y]))) else Pv (i + 1) acc H5)
    (hd : ∀ acc H2, Pv x.cps.size acc H2 → Q H2) :
    ∃ W : Nat → Nat → List V → Hp → Prop, (∃ m, W 0 m [] H) ∧ ∀ i m acc H2, W i m acc H2 →
      ((Its x).stop i H2 ∧ Q H2) ∨ ((Its x).go i H2 ∧ ∃ N : List V → Hp → Prop, (∀ acc' H', N acc' H' → ∃ m', m' < m ∧ W (i + 1) m' acc' H') ∧ ∀ v H3, (Its x).yld i H2 v H3 → g v σ0 H3 fun σ2 H4 => tt σ2 H4 fun b H5 =>
        if b = true then te σ2 H5 fun y H6 => H6 D = some (.lst acc) ∧ acc.length < sizeLine ∧ N (acc ++ [y]) (upd H6 D (.lst (acc ++ [y]))) else N acc H5) := by
  refine ⟨fun i m acc H => m = x.cps.size - i ∧ i ≤ x.cps.size ∧ Pv i acc H, ⟨x.cps.size, by simp, Nat.zero_le _, h0⟩, ?_⟩
  rintro i m acc H2 ⟨rfl, hi, p⟩
  by_cases hlt : i < x.cps.size
  · refine .inr ⟨hlt, Pv (i + 1), fun acc' H' p' => ⟨x.cps.size - (i + 1), by omega, rfl, hlt, p'⟩, fun v H3 y => ?_⟩
    obtain ⟨rfl, c, hc, rfl⟩ := y
    exact hs i c acc _ hc p
  · have e : i = x.cps.size := by omega
    subst e
    exact .inl ⟨Nat.le_refl _, hd acc H2 p⟩
end
end L2
namespace L2
open PySem PySem.Spec PyProof.Rows LM
noncomputable def LET : Str := Str.ofString "abcdefghijklmnopqrstuvwxyz"
/-- is a sign a letter, as the walk tells it -/
noncomputable def letB (c : Nat) : Bool := !(Builtin.Str.occurrences LET ⟨#[c]⟩ 0 LET.length 1).isEmpty
theorem letB_of {c : Nat} (h : 97 ≤ c ∧ c ≤ 122) : letB c = true := by
  have all : ∀ k : Fin 26, letB (97 + k.val) = true := by decide +kernel
  have := all ⟨c - 97, by omega⟩
  rw [show 97 + (c - 97) = c by omega] at this
  exact this
noncomputable def nmS (s : Str) : Bool := decide (1 ≤ (s.length : Int)) && decide ((s.length : Int) ≤ 8) && s.cps.toList.all letB
noncomputable def nmD : PyData → Bool
  | .str s => nmS s
  | _ => false
theorem IsNm.nm {s : Str} (h : IsNm s) : nmS s = true := by
  obtain ⟨h1, h2, h3⟩ := h
  unfold nmS
  rw [decide_eq_true (by omega), decide_eq_true (by omega), Bool.true_and, Bool.true_and, List.all_eq_true]
  exact fun c hc => letB_of (h1 c hc)
theorem IsNm.ascii {s : Str} (h : IsNm s) : s.cps.all (· < 128) = true := by
  rw [← Array.all_toList, List.all_eq_true]
  exact fun c hc => decide_eq_true (by have := h.1 c hc; omega)
/-- what may stand for a name -/
structure Thg (d : PyData) : Prop where
  lay : d.canLay0 = true
  dep : d.depth ≤ 4
  asc : ∀ s, d = .str s → s.cps.all (· < 128) = true ∧ s.length ≤ 100
noncomputable def isS : V → Bool
  | .str _ => true
  | _ => false
theorem kit_str (K : PySem.W.Frag) {H : Hp} {x : V} {n : String} (ty : TyOf K H x (.type n)) : PySem.W.kitOne K (.type n) (.type "str") = some (isS x) := by
  cases ty <;> kernel_rfl
end L2
namespace L2
open PySem PySem.Spec PyProof.Rows LM
noncomputable def ThgE (K : PySem.W.Frag) (H : Hp) (v : V) (d : PyData) : Prop := IsD K H d v ∧ (∃ n, TyOf K H v (.type n)) ∧ Thg d
theorem TyOf.same {K : PySem.W.Frag} {H H' : Hp} {v : V} {n : String} (s : Same H H') (h : TyOf K H v (.type n)) : TyOf K H' v (.type n) := by
  cases h with
  | non => exact .non
  | bl x => exact .bl x
  | int i => exact .int i
  | str x => exact .str x
  | flt x => exact .flt x
  | lst e => exact .lst (s _ _ e)
  | frz e => exact .frz (s _ _ e)
  | tup e => exact .tup (s _ _ e)
  | dK e => exact .dK (s _ _ e)
  | dT e => exact .dT (s _ _ e)
end L2
namespace L2
open PySem PySem.Spec PyProof.Rows LM
section
variable {X : Cx}
end
/-- a global that is a text -/
theorem gstr_mk {K : PySem.W.Frag} {h : Heap} {mg : Str → Option Value} {x : Str} {i : Str} {t : Tok} (X : K.In h) (G : h.Ns mainGlobals mg) (a : PySem.W.nsIn K mainGlobals x = some (some (.str i t))) : ∃ t, mg x = some (.str i t) := ⟨t, PySem.W.mg_of X G a⟩
/-! ### sums of fractions -/
theorem plus_comm {f g : Int × Int} : plusF f g = plusF g f := by
  unfold plusF
  rw [show f.1 * g.2 + g.1 * f.2 = g.1 * f.2 + f.1 * g.2 by omega, show f.2 * g.2 = g.2 * f.2 by rw [Int.mul_comm]]
theorem plus_assoc {f g h : Int × Int} (hf : FrOk f) (hg : FrOk g) (hh : FrOk h) : plusF (plusF f g) h = plusF f (plusF g h) := by
  have pf := hf.pos
  have pg := hg.pos
  have ph := hh.pos
  have e1 : plusF f g = frOf (f.1 * g.2 + g.1 * f.2) (f.2 * g.2) := rfl
  have e2 : plusF g h = frOf (g.1 * h.2 + h.1 * g.2) (g.2 * h.2) := rfl
  rw [e1, e2]
  conv => lhs; rw [← frOf_self hh]
  conv => rhs; rw [← frOf_self hf]
  rw [plus_frOf (Int.mul_pos pf pg) ph, plus_frOf pf (Int.mul_pos pg ph)]
  refine frOf_eq (Int.mul_pos (Int.mul_pos pf pg) ph) (Int.mul_pos pf (Int.mul_pos pg ph)) ?_
  generalize f.1 = a1; generalize f.2 = a2; generalize g.1 = b1; generalize g.2 = b2; generalize h.1 = r1; generalize h.2 = r2
  grind
theorem plus_zero {f : Int × Int} (hf : FrOk f) : plusF (0, 1) f = f := by
  have e : plusF (0, 1) f = frOf (0 * f.2 + f.1 * 1) (1 * f.2) := rfl
  rw [e, Int.zero_mul, Int.zero_add, Int.mul_one, Int.one_mul, frOf_self hf]
theorem sum_fold : ∀ (l : List (Int × Int)) {a : Int × Int}, FrOk a → (∀ f ∈ l, FrOk f) → l.foldl plusF a = plusF a (sumF l) ∧ FrOk (sumF l)
  | [], a, ha, _ => ⟨by show a = plusF a (0, 1); rw [plus_comm, plus_zero ha], nought_ok⟩
  | f :: l, a, ha, h => by
    have hf := h f (List.mem_cons_self ..)
    have hl : ∀ g ∈ l, FrOk g := fun g hg => h g (List.mem_cons_of_mem _ hg)
    obtain ⟨e1, o1⟩ := sum_fold l (a := plusF a f) (plusF_ok ha.pos hf.pos) hl
    obtain ⟨e2, _⟩ := sum_fold l (a := plusF (0, 1) f) (plusF_ok (by decide) hf.pos) hl
    have e3 : sumF (f :: l) = plusF f (sumF l) := by
      show l.foldl plusF (plusF (0, 1) f) = _
      rw [e2, plus_zero hf]
    rw [e3]
    refine ⟨?_, plusF_ok hf.pos o1.pos⟩
    show l.foldl plusF (plusF a f) = _
    rw [e1, plus_assoc ha hf o1]
theorem sum_cons {f : Int × Int} {l : List (Int × Int)} (hf : FrOk f) (h : ∀ g ∈ l, FrOk g) : sumF (f :: l) = plusF f (sumF l) := by
  show l.foldl plusF (plusF (0, 1) f) = _
  rw [plus_zero hf, (sum_fold l hf h).1]
theorem sum_app {l m : List (Int × Int)} (hl : ∀ f ∈ l, FrOk f) (hm : ∀ f ∈ m, FrOk f) : sumF (l ++ m) = plusF (sumF l) (sumF m) := by
  unfold sumF
  rw [List.foldl_append]
  exact (sum_fold m (sum_fold l nought_ok hl).2 hm).1
/-- a part more for one -/
theorem sum_put {S : Sh} {x : Str} {f : Int × Int} (nd : (S.map (·.1)).Nodup) (ok : ∀ p ∈ S, FrOk p.2) (hf : FrOk f) : sumF ((putS S x (plusF (shAt S x) f)).map (·.2)) = plusF (sumF (S.map (·.2))) f := by
  have okv : ∀ g ∈ S.map (·.2), FrOk g := fun g hg => by
    obtain ⟨p, hp, rfl⟩ := List.mem_map.mp hg
    exact ok p hp
  unfold putS
  split
  · rename_i an
    obtain ⟨p, hp, ep⟩ := List.any_eq_true.mp an
    have ex : p.1 = x := of_decide_eq_true ep
    obtain ⟨A, B, rfl⟩ := List.append_of_mem hp
    have nA : ∀ q ∈ A, q.1 ≠ x := fun q hq z => by
      rw [List.map_append] at nd
      exact (List.nodup_append.mp nd).2.2 q.1 (List.mem_map.mpr ⟨q, hq, rfl⟩) p.1 (by simp) (z.trans ex.symm)
    have nB : ∀ q ∈ B, q.1 ≠ x := fun q hq z => by
      rw [List.map_append, List.map_cons] at nd
      have := (List.nodup_cons.mp (List.nodup_append.mp nd).2.1).1
      exact this (List.mem_map.mpr ⟨q, hq, z.trans ex.symm⟩)
    have hat : shAt (A ++ p :: B) x = p.2 := by
      unfold shAt
      rw [List.find?_append, List.find?_eq_none.mpr (fun q hq => by simpa using nA q hq), List.find?_cons_of_pos (by simpa using ex)]
      rfl
    have hp2 := ok p (by simp)
    rw [hat]
    have hv := plusF_ok hp2.pos hf.pos
    have okA : ∀ g ∈ A.map (·.2), FrOk g := fun g hg => okv g (by rw [List.map_append]; exact List.mem_append_left _ hg)
    have okB : ∀ g ∈ B.map (·.2), FrOk g := fun g hg => okv g (by rw [List.map_append, List.map_cons]; exact List.mem_append_right _ (List.mem_cons_of_mem _ hg))
    have e1 : ((A ++ p :: B).map fun q => if q.1 = x then (q.1, plusF p.2 f) else q) = A ++ (p.1, plusF p.2 f) :: B := by
      rw [List.map_append, List.map_cons, if_pos ex]
      congr 1
      · refine (List.map_congr_left fun q hq => ?_).trans (List.map_id A)
        rw [if_neg (nA q hq)]
        rfl
      · congr 1
        refine (List.map_congr_left fun q hq => ?_).trans (List.map_id B)
        rw [if_neg (nB q hq)]
        rfl
    rw [e1, List.map_append, List.map_append, List.map_cons, List.map_cons]
    have sB := (sum_fold _ nought_ok okB).2
    have sA := (sum_fold _ nought_ok okA).2
    rw [sum_app okA (fun g hg => (List.mem_cons.mp hg).elim (fun z => z ▸ hv) (okB g)), sum_app okA (fun g hg => (List.mem_cons.mp hg).elim (fun z => z ▸ hp2) (okB g)), sum_cons hv okB, sum_cons hp2 okB]
    generalize sumF (A.map (·.2)) = a at sA ⊢
    generalize sumF (B.map (·.2)) = b at sB ⊢
    rw [plus_assoc hp2 hf sB, plus_comm (f := f) (g := b), ← plus_assoc hp2 sB hf, plus_assoc sA (plusF_ok hp2.pos sB.pos) hf]
  · rename_i an
    have hat : shAt S x = (0, 1) := by
      unfold shAt
      rw [List.find?_eq_none.mpr fun q hq => ?_]
      · rfl
      · intro z
        exact an (List.any_eq_true.mpr ⟨q, hq, z⟩)
    rw [hat, plus_zero hf, List.map_append, List.map_cons, List.map_nil, sumF_snoc]
/-- parts with a common bottom, of any size up to k -/
theorem sumF_sfk {D k : Int} (hD : 0 < D) (hk : 0 ≤ k) {l : List (Int × Int)} (h : ∀ f ∈ l, SF D k f) : ∀ i : Nat, SF D (k * i) (sumF (l.take i))
  | 0 => ⟨nought_ok, Int.le_refl _, by simp [sumF], Int.one_dvd _⟩
  | i + 1 => by
    have ih := sumF_sfk hD hk h i
    cases e : l[i]? with
    | none =>
      have hl : l.length ≤ i := List.getElem?_eq_none_iff.mp e
      rw [List.take_of_length_le (by omega)]
      rw [List.take_of_length_le hl] at ih
      refine ⟨ih.ok, ih.nn, ?_, ih.dv⟩
      have := ih.le
      have p := ih.ok.pos
      have e2 : k * ((i + 1 : Nat) : Int) * (sumF l).2 = k * (i : Int) * (sumF l).2 + k * (sumF l).2 := by
        rw [Int.natCast_add]
        grind
      have := Int.mul_nonneg hk (Int.le_of_lt p)
      omega
    | some f =>
      have pf := h f (List.mem_of_getElem? e)
      rw [sumF_take e]
      refine ⟨plusF_ok ih.ok.pos pf.ok.pos, plus_nn ih.ok.pos pf.ok.pos ih.nn pf.nn, ?_, plus_dvd hD ih.ok.pos pf.ok.pos ih.dv pf.dv⟩
      have c' : (plusF (sumF (l.take i)) f).1 * ((sumF (l.take i)).2 * f.2) = (plusF (sumF (l.take i)) f).2 * ((sumF (l.take i)).1 * f.2 + f.1 * (sumF (l.take i)).2) := fr_cross _ _
      have q0 := (plusF_ok ih.ok.pos pf.ok.pos).pos
      have bc := Int.mul_pos ih.ok.pos pf.ok.pos
      refine Int.le_of_mul_le_mul_right (a := (sumF (l.take i)).2 * f.2) ?_ bc
      rw [c']
      have m1 : (sumF (l.take i)).1 * f.2 ≤ k * i * (sumF (l.take i)).2 * f.2 := Int.mul_le_mul_of_nonneg_right ih.le (Int.le_of_lt pf.ok.pos)
      have m2 : f.1 * (sumF (l.take i)).2 ≤ k * f.2 * (sumF (l.take i)).2 := Int.mul_le_mul_of_nonneg_right pf.le (Int.le_of_lt ih.ok.pos)
      have m3 : (sumF (l.take i)).1 * f.2 + f.1 * (sumF (l.take i)).2 ≤ k * ((i + 1 : Nat) : Int) * ((sumF (l.take i)).2 * f.2) := by
        have : k * ((i + 1 : Nat) : Int) * ((sumF (l.take i)).2 * f.2) = k * i * (sumF (l.take i)).2 * f.2 + k * f.2 * (sumF (l.take i)).2 := by
          rw [Int.natCast_add]
          grind
        omega
      have m4 := Int.mul_le_mul_of_nonneg_left m3 (Int.le_of_lt q0)
      have : (plusF (sumF (l.take i)) f).2 * (k * ((i + 1 : Nat) : Int) * ((sumF (l.take i)).2 * f.2)) = k * ((i + 1 : Nat) : Int) * (plusF (sumF (l.take i)) f).2 * ((sumF (l.take i)).2 * f.2) := by grind
      omega
end L2
namespace L2
open PySem PySem.Spec PyProof.Rows LM
mutual
theorem IsD.same {K : PySem.W.Frag} {H H' : Hp} (s : Same H H') : ∀ {d : PyData} {v : V}, IsD K H d v → IsD K H' d v
  | _, _, .non => .non
  | _, _, .bl b => .bl b
  | _, _, .int i => .int i
  | _, _, .str x => .str x
  | _, _, .tup h1 h2 => .tup (s.tup h1) (IsDs.same s h2)
  | _, _, .lst h1 h2 => .lst (s.seq h1) (IsDs.same s h2)
theorem IsDs.same {K : PySem.W.Frag} {H H' : Hp} (s : Same H H') : ∀ {ds : List PyData} {vs : List V}, IsDs K H ds vs → IsDs K H' ds vs
  | _, _, .nil => .nil
  | _, _, .cons h1 h2 => .cons (IsD.same s h1) (IsDs.same s h2)
end
theorem ThgE.same {K : PySem.W.Frag} {H H' : Hp} {v : V} {d : PyData} (s : Same H H') (h : ThgE K H v d) : ThgE K H' v d := by
  obtain ⟨h1, ⟨n, h2⟩, h3⟩ := h
  exact ⟨h1.same s, ⟨n, h2.same s⟩, h3⟩
theorem IsNm.thg {s : Str} (h : IsNm s) : Thg (.str s) := ⟨h.1.lay, (by show (0 : Nat) ≤ 4; decide), fun x e => by cases e; exact ⟨h.ascii, Nat.le_trans h.2.2 (by decide)⟩⟩
noncomputable abbrev Prs := List (PyData × Int × Int)
noncomputable def nameOf : PyData → Str
  | .str s => s
  | _ => Str.ofString ""
noncomputable def okP (p : PyData × Int × Int) : Prop := nmD p.1 = true ∧ 0 < p.2.1
noncomputable def stepS (S : Sh) (p : PyData × Int × Int) : Sh := putS S (nameOf p.1) (plusF (shAt S (nameOf p.1)) p.2)
noncomputable def accS (ps : Prs) : Sh := ps.foldl stepS []
theorem accS_snoc (ps : Prs) (p : PyData × Int × Int) : accS (ps ++ [p]) = stepS (accS ps) p := by
  unfold accS
  rw [List.foldl_append]
  rfl
/-- a pair's fraction -/
structure PP (D : Int) (f : Int × Int) : Prop where
  pos : 0 < f.2
  b1 : Bd 300 f.1
  b2 : Bd 300 f.2
  sf : 0 < f.1 → SF D 2 f
/-- a pair as it lies -/
noncomputable def PrT (K : PySem.W.Frag) (H : Hp) (v : V) (p : PyData × Int × Int) : Prop := ∃ r nv y, v = .ref r ∧ SqT K H r [nv, .ref y] ∧ ThgE K H nv p.1 ∧ SqT K H y [.int p.2.1, .int p.2.2]
theorem SF.plus {D k k' : Int} {f g : Int × Int} (hD : 0 < D) (hf : SF D k f) (hg : SF D k' g) : SF D (k + k') (plusF f g) := by
  refine ⟨plusF_ok hf.ok.pos hg.ok.pos, plus_nn hf.ok.pos hg.ok.pos hf.nn hg.nn, ?_, plus_dvd hD hf.ok.pos hg.ok.pos hf.dv hg.dv⟩
  have c' : (plusF f g).1 * (f.2 * g.2) = (plusF f g).2 * (f.1 * g.2 + g.1 * f.2) := fr_cross _ _
  have q0 := (plusF_ok hf.ok.pos hg.ok.pos).pos
  have bc := Int.mul_pos hf.ok.pos hg.ok.pos
  refine Int.le_of_mul_le_mul_right (a := f.2 * g.2) ?_ bc
  rw [c']
  have m1 : f.1 * g.2 ≤ k * f.2 * g.2 := Int.mul_le_mul_of_nonneg_right hf.le (Int.le_of_lt hg.ok.pos)
  have m2 : g.1 * f.2 ≤ k' * g.2 * f.2 := Int.mul_le_mul_of_nonneg_right hg.le (Int.le_of_lt hf.ok.pos)
  have m3 : f.1 * g.2 + g.1 * f.2 ≤ (k + k') * (f.2 * g.2) := by
    have : (k + k') * (f.2 * g.2) = k * f.2 * g.2 + k' * g.2 * f.2 := by grind
    omega
  have m4 := Int.mul_le_mul_of_nonneg_left m3 (Int.le_of_lt q0)
  have : (plusF f g).2 * ((k + k') * (f.2 * g.2)) = (k + k') * (plusF f g).2 * (f.2 * g.2) := by grind
  omega
theorem SF.mono {D k k' : Int} {f : Int × Int} (h : SF D k f) (hk : k ≤ k') : SF D k' f := ⟨h.ok, h.nn, Int.le_trans h.le (Int.mul_le_mul_of_nonneg_right hk (Int.le_of_lt h.ok.pos)), h.dv⟩
theorem SF.zero {D : Int} : SF D 0 (0, 1) := ⟨nought_ok, Int.le_refl _, by decide, Int.one_dvd _⟩
theorem SF.bdk {D k : Int} {n : Nat} {f : Int × Int} (h : SF D k f) (hD : 0 < D) (b : Bd n D) (k0 : 0 ≤ k) (hk : k ≤ 16384) : Bd (n + 15) f.1 ∧ Bd (n + 15) f.2 := by
  have b2 := bd_dvd h.ok.pos hD h.dv b
  refine ⟨?_, b2.mono (by omega)⟩
  have h2 : f.1 ≤ 16384 * f.2 := Int.le_trans h.le (Int.mul_le_mul_of_nonneg_right hk (Int.le_of_lt h.ok.pos))
  have l := b2.lt
  have nn := h.nn
  have p := h.ok.pos
  refine Bd.of ?_
  rw [Nat.pow_add]
  have : (2 : Nat) ^ 15 = 32768 := by decide
  rw [this]
  omega
theorem plus_pos {f g : Int × Int} (hf : 0 < f.2) (hg : 0 < g.2) (h1 : 0 ≤ f.1) (h2 : 0 < g.1) : 0 < (plusF f g).1 := by
  have c' : (plusF f g).1 * (f.2 * g.2) = (plusF f g).2 * (f.1 * g.2 + g.1 * f.2) := fr_cross _ _
  have q0 := (plusF_ok hf hg).pos
  have bc := Int.mul_pos hf hg
  have t0 : 0 < f.1 * g.2 + g.1 * f.2 := by
    have a1 := Int.mul_nonneg h1 (Int.le_of_lt hg)
    have a2 := Int.mul_pos h2 hf
    omega
  have := Int.mul_pos q0 t0
  rw [← c'] at this
  refine Int.not_le.mp fun z => ?_
  have z2 := Int.mul_le_mul_of_nonneg_right z (Int.le_of_lt bc)
  rw [Int.zero_mul] at z2
  omega
structure AInv (D : Int) (i : Nat) (S : Sh) (ps : Prs) : Prop where
  nd : (S.map (·.1)).Nodup
  sf : ∀ q ∈ S, SF D (2 * i) q.2 ∧ 0 < q.2.1
  len : S.length ≤ i
  sum : sumF (S.map (·.2)) = sumF (ps.map (·.2))
theorem AInv.nil {D : Int} : AInv D 0 [] [] := ⟨List.nodup_nil, fun _ z => (nomatch z), Nat.le_refl _, rfl⟩
theorem AInv.at {D : Int} {i : Nat} {S : Sh} {ps : Prs} (h : AInv D i S ps) (x : Str) : SF D (2 * i) (shAt S x) := by
  by_cases z : x ∈ S.map (·.1)
  · exact (h.sf _ (shAt_mem z)).1
  · have e : shAt S x = (0, 1) := by
      unfold shAt
      rw [List.find?_eq_none.mpr fun q hq w => z (List.mem_map.mpr ⟨q, hq, of_decide_eq_true w⟩)]
      rfl
    rw [e]
    exact SF.zero.mono (by omega)
theorem AInv.step {D : Int} (hD : 0 < D) {i : Nat} {S : Sh} {ps : Prs} {p : PyData × Int × Int} (h : AInv D i S ps) (ok : 0 < p.2.1) (hp : PP D p.2) : AInv D (i + 1) (stepS S p) (ps ++ [p]) := by
  have f := hp.sf ok
  have a := h.at (nameOf p.1)
  have e2 : (2 * ((i + 1 : Nat) : Int)) = 2 * (i : Int) + 2 := by omega
  refine ⟨putS_nodup h.nd _ _, fun q hq => ?_, ?_, ?_⟩
  · rcases putS_mem hq with z | z
    · rw [z, e2]
      exact ⟨a.plus hD f, plus_pos a.ok.pos f.ok.pos a.nn ok⟩
    · exact ⟨(h.sf q z).1.mono (by omega), (h.sf q z).2⟩
  · have := putS_len S (nameOf p.1) (plusF (shAt S (nameOf p.1)) p.2)
    have := h.len
    unfold stepS
    omega
  · unfold stepS
    rw [sum_put h.nd (fun q hq => (h.sf q hq).1.ok) f.ok, h.sum, List.map_append, List.map_cons, List.map_nil, sumF_snoc]
end L2
namespace L2
open PySem PySem.Spec PyProof.Rows LM
end L2
namespace L2
open PySem PySem.Spec PyProof.Rows
section
variable {X : Cx}
end
end L2
namespace L2
open PySem PySem.Spec PyProof.Rows LM
end L2
namespace PySem
open Sem (wp)
section
variable {prog : Program} {w : World} {A : Around} {E : Value → Shared → Prop} {h : Heap} {g : Array GenState} {d : Drawn} {t : Nat} {os : OsState}
variable {nm q : Str} {C N : Addr} {bs bm bmB : List Value} {hdct : Bool} {sn : List Str} {sub : List Value} {ab : Bool} {col : Option Bool} {dd : Option Addr} {k0 k1 k2 k3 k5 : Option Value} {B newId initId : String}
end
end PySem
namespace PySem.W
open PySem PySem.Calls PyProof.Rows Builtin Builtin.ObjectAttr
section
variable {K : Frag} {prog : Program} {w : World} {A : Around} {R : Result → Shared → Prop} {s : Shared} {x C : Addr}
end
end PySem.W
namespace PySem.W
open PySem PySem.Calls PyProof.Rows Builtin Builtin.ObjectAttr
section
variable {K : Frag} {prog : Program} {w : World} {A : Around} {E : Value → Shared → Prop} {x C dx : Addr} {ox : Obj} {mA : Str → Option Value} {name : Str} {v : Value}
  {hh : Heap} {g : Array GenState} {d : Drawn} {t : Nat} {os : OsState}
end
end PySem.W
namespace PySem.W
open PySem PySem.Calls PyProof.Rows
section
variable {K : Frag} {prog : Program} {w : World} {A : Around} {E : Value → Shared → Prop} {x C : Addr} {hh : Heap} {g : Array GenState} {d : Drawn} {t : Nat} {os : OsState}
  {nm q : Str} {N : Addr} {bs bm : List Value} {hdct : Bool} {sn : List Str} {sub : List Value} {ab : Bool} {col : Option Bool} {dd : Option Addr} {k0 k1 k2 k3 k5 : Option Value} {newId : String}
end
end PySem.W
namespace L2
open PySem PySem.Spec PyProof.Rows
section
variable {P : Program} {w : World} {H : Hp} {h : Heap} {x C a : Addr} {d : Option Addr} {fs : List (Str × V)}
end
section
variable {X : Cx} {pins : List (Addr × Obj)} {σ : St} {H : Hp} {s : Shared}
end
end L2
namespace L2
open PySem PySem.Spec PyProof.Rows LM
section
variable {P : Program} {w : World} {K : PySem.W.Frag} {mg : Str → Option Value} {base : Heap}
end
section
variable {X : Cx}
end
end L2
namespace L2
open PySem
end L2
namespace L2
end L2
namespace L2
end L2
namespace L2
open PySem PySem.Spec PyProof.Rows LM
end L2
namespace L2
open PySem
end L2
namespace L2
open PySem PySem.Spec PyProof.Rows LM
-- plain things: no lists, no truths
end L2
namespace L2
open PySem PySem.Spec PyProof.Rows
/-! ### try with any body, and two clauses -/
/-- an exception that has come up to a try: the state at which it was raised, and where it lies -/
noncomputable def XB (X : Cx) (pins : List (Addr × Obj)) (W : XK) : Value → Shared → Prop := fun e s' => ∃ x C T σ' H2 s2 H' a0, e = .ref x ∧ Inv X pins σ' H2 s2 ∧ s2.heap.get? x = none ∧ s2.heap.get? T = none ∧ Inv X pins σ' H' s' ∧
  Trc s'.heap x T (.ref C) a0 ∧ H' x = none ∧ H' T = none ∧ W (.ref C) none H'
/-- within a try's body: what was pinned stays so, an exception goes to the clauses -/
noncomputable abbrev Cx.tried (X : Cx) (pins : List (Addr × Obj)) (W : XK) : Cx := { X with pn := X.pn ++ pins, xe := XB X pins W }
structure Miss (K : PySem.W.Frag) (mg : Str → Option Value) (c : Str) (C : Addr) : Prop where
  ok : PySem.W.excIn K C vErr "ValueError.__new__" = true
  ex : ∃ C', ExcCl K mg c C' ∧ PySem.W.mroIn K C (.ref C') = some false
section
variable {X : Cx} {pins : List (Addr × Obj)} {σ : St} {H : Hp} {s : Shared} {W : XK}
theorem Inv.tried (I : Inv X pins σ H s) (W : XK) : Inv (X.tried pins W) [] σ H s :=
  ⟨⟨I.ok.mod, I.ok.kind, I.ok.glob, I.ok.blt, I.ok.above, I.ok.inj, I.ok.has, I.ok.cab, I.ok.hd, I.ok.frames, I.ok.stk, I.ok.exf, I.ok.bs, I.ok.bsz, I.ok.noex, I.ok.exfs, I.ok.funs, I.ok.frf⟩, I.os, I.bare, I.base, I.loc, I.cell, I.free, I.freeC, fun p hp => I.pin p (by simpa using hp), I.hok, I.len⟩
theorem Inv.untried {pins' : List (Addr × Obj)} (I : Inv (X.tried pins W) pins' σ H s) : Inv X pins σ H s :=
  ⟨⟨I.ok.mod, I.ok.kind, I.ok.glob, I.ok.blt, I.ok.above, I.ok.inj, I.ok.has, I.ok.cab, I.ok.hd, I.ok.frames, I.ok.stk, I.ok.exf, I.ok.bs, I.ok.bsz, I.ok.noex, I.ok.exfs, I.ok.funs, I.ok.frf⟩, I.os, I.bare, I.base, I.loc, I.cell, I.free, I.freeC, fun p hp => I.pin p (List.mem_append_left _ hp), I.hok, I.len⟩
theorem SP.untried {D : Ends} {f : Flow} {s' : Shared} (h : SP (X.tried pins W) [] D f s') : SP X pins D f s' := by
  cases f with
  | next => obtain ⟨σ', H', I, q⟩ := h; exact ⟨σ', H', I.untried, q⟩
  | brk => obtain ⟨σ', H', I, q⟩ := h; exact ⟨σ', H', I.untried, q⟩
  | cont => obtain ⟨σ', H', I, q⟩ := h; exact ⟨σ', H', I.untried, q⟩
  | ret u => obtain ⟨v, σ', H', I, r, q⟩ := h; exact ⟨v, σ', H', I.untried, r, q⟩
theorem pass_try {E' : XK} (h : ∀ C o H, E' C o H → W C o H) : Passes (CXe X.prog X.w) (X.tried pins W) E' := by
  rintro pins' σ H2 s2 e s' I2 ⟨x, C, T, H', a0, rfl, os, bare, un, hok, n1, n2, u1, u2, t, ee⟩
  exact ⟨x, C, T, σ, H2, s2, H', a0, rfl, I2.untried, n1, n2, (I2.call' (ch := []) os un hok bare (fun _ z => nomatch z)).untried, t, u1, u2, h _ _ _ ee⟩
theorem hand_hit {x T C : Addr} {a0 : Value} {H2 H' : Hp} {s2 s' : Shared} {h5 : Heap} {c n : Str} {i : Nat} {cp hp : Pos} {b0 : Stmt} {suite : List Stmt} {th : TS} {D : Ends} {rest : List ExceptHandler} (hst : X.stack = X.env :: X.outer) (hex : X.ex = [])
    (hN : X.N.Nodup) (hi : X.N[i]? = some n) (hl : X.env.kindOf n = some .local)
    (I2 : Inv X pins σ H2 s2) (n1 : s2.heap.get? x = none) (n2 : s2.heap.get? T = none) (I : Inv X pins σ H' s') (u1 : H' x = none) (u2 : H' T = none)
    (fl5 : Heap.FlyingW (PySem.W.hideAll s'.heap (frs (X.env :: X.outer) ++ [x, T])) (X.env :: X.outer) x (.ref C) a0 h5) (us45 : s'.heap.UpToSlots h5)
    (Z : Hit X.K X.mg c C) (hs : ∀ y, PSs (X.marked y) (b0 :: suite) th) (q : th (D.gone i) (σ.set i (some (.ref x))) (upd H' x (ExO x C))) (hg : Gl X c) (hdb : (c == ("__debug__" : Str)) = false) {E : Value → Shared → Prop} :
    wpAny (model X.prog X.w) X.A (handleBy (.ref x) X.env (.ExceptHandler (some (.Name c cp)) (some n) (b0 :: suite) hp :: rest)) (SP X pins D) E { s' with heap := h5 } := by
  obtain ⟨p1, p2, p3, p4⟩ := I2.apart hex n1
  obtain ⟨r1, r2, r3, r4⟩ := I2.apart hex n2
  obtain ⟨C', Zc, hm⟩ := Z.ex
  have J := I.landed (t' := s'.toks) p1 r1 u1 u2 p2 r2 p3 r3 p4 r4 (hst ▸ fl5.1) us45
  obtain ⟨oe, he, hcl⟩ := fl5.there
  obtain ⟨tl, N, nm, qn, bs, hd, sn, sub, ab, col, dd, k0, k1, k2, k3, k5, mN, hC, _, _, _, hmr⟩ := exc_of_in J.kIn Z.ok
  obtain ⟨tl', N', nm', qn', bs', hd', sn', sub', ab', col', dd', j0, j1, j2, j3, j5, mN', hC', _, _, T', _⟩ := exc_of_in J.kIn Zc.ok
  refine wpAny_handleBy_cons (codeAny_handlers_test (ld_glob (X := X.marked x) (J.marked x) hg Zc.mg ?_ hdb)) (by intro z; cases z)
  refine excMatches_own hC hC' he hcl (T'.hasType rfl) (hmr _ _ hm) ?_
  refine codeAny_handlers_suite_as ?_
  refine lands_againW fl5 fun h6 fl6 us6 => ?_
  have J6 := I.landed (t' := s'.toks) p1 r1 u1 u2 p2 r2 p3 r3 p4 r4 (hst ▸ fl6.1) (us45.trans us6)
  obtain ⟨oe6, he6, hcl6⟩ := fl6.there
  have J7 := J6.trackX p1 u1 p2 p3 p4 he6 hcl6
  refine store_ok (v := .ref x) J7 hN hi (.inl hl) rfl (fun s8 J8 => ?_) (.inr hl)
  refine wpAny_mono (hs x pins _ _ _ (D.gone i) (J8.marked x) q) (fun f s9 hq => ?_) (fun _ _ z => False.elim z)
  exact gone_ok hN hi hl I.ok.kind (hq.unmarked I.ok)
theorem hand_miss {x T C : Addr} {a0 : Value} {H2 H' : Hp} {s2 s' : Shared} {h5 : Heap} {c : Str} {on : Option Str} {cp hp : Pos} {suite : List Stmt} {D : Ends} {rest : List ExceptHandler} (hst : X.stack = X.env :: X.outer) (hex : X.ex = [])
    (I2 : Inv X pins σ H2 s2) (n1 : s2.heap.get? x = none) (n2 : s2.heap.get? T = none) (I : Inv X pins σ H' s') (u1 : H' x = none) (u2 : H' T = none)
    (fl5 : Heap.FlyingW (PySem.W.hideAll s'.heap (frs (X.env :: X.outer) ++ [x, T])) (X.env :: X.outer) x (.ref C) a0 h5) (us45 : s'.heap.UpToSlots h5)
    (Z : Miss X.K X.mg c C) (hg : Gl X c) (hdb : (c == ("__debug__" : Str)) = false) {E : Value → Shared → Prop}
    (hr : wpAny (model X.prog X.w) X.A (handleBy (.ref x) X.env rest) (SP X pins D) E { s' with heap := h5 }) :
    wpAny (model X.prog X.w) X.A (handleBy (.ref x) X.env (.ExceptHandler (some (.Name c cp)) on suite hp :: rest)) (SP X pins D) E { s' with heap := h5 } := by
  obtain ⟨p1, p2, p3, p4⟩ := I2.apart hex n1
  obtain ⟨r1, r2, r3, r4⟩ := I2.apart hex n2
  obtain ⟨C', Zc, hm⟩ := Z.ex
  have J := I.landed (t' := s'.toks) p1 r1 u1 u2 p2 r2 p3 r3 p4 r4 (hst ▸ fl5.1) us45
  obtain ⟨oe, he, hcl⟩ := fl5.there
  obtain ⟨tl, N, nm, qn, bs, hd, sn, sub, ab, col, dd, k0, k1, k2, k3, k5, mN, hC, _, _, _, hmr⟩ := exc_of_in J.kIn Z.ok
  obtain ⟨tl', N', nm', qn', bs', hd', sn', sub', ab', col', dd', j0, j1, j2, j3, j5, mN', hC', _, _, T', _⟩ := exc_of_in J.kIn Zc.ok
  refine wpAny_handleBy_cons (codeAny_handlers_test (ld_glob (X := X.marked x) (J.marked x) hg Zc.mg ?_ hdb)) (by intro z; cases z)
  exact excMatches_own hC hC' he hcl (T'.hasType rfl) (hmr _ _ hm) hr
/-- try: .. / except c1 as n: .. / except c2 as n: .. -/
noncomputable def tTryB (K : PySem.W.Frag) (mg : Str → Option Value) (N : Nat) (tb : XK → TS) (c1 c2 : Str) (m : Nat) (t1 t2 : TS) : TS := fun D σ H => tb (fun cls _ H2 => ∃ C, cls = .ref C ∧
  ((Hit K mg c1 C ∧ ∀ (x : Addr) (σ' : St), σ'.length = N → H2 x = none → t1 (D.gone m) (σ'.set m (some (.ref x))) (upd H2 x (ExO x C))) ∨
   (Miss K mg c1 C ∧ Hit K mg c2 C ∧ ∀ (x : Addr) (σ' : St), σ'.length = N → H2 x = none → t2 (D.gone m) (σ'.set m (some (.ref x))) (upd H2 x (ExO x C))))) D σ H
theorem ps_tryB {m L : Nat} {c1 c2 nx : Str} {p1 p2 q1 q2 pos : Pos} {body : List Stmt} {b1 b2 : Stmt} {su1 su2 : List Stmt} {tb : XK → TS} {t1 t2 : TS} (hN : X.N.Nodup) (hn : X.N[m]? = some nx) (hl : X.env.kindOf nx = some .local)
    (hb : ∀ pins W, PSs (X.tried pins W) body (tb W)) (h1 : ∀ z, PSs (X.marked z) (b1 :: su1) t1) (h2 : ∀ z, PSs (X.marked z) (b2 :: su2) t2)
    (hst : X.stack = X.env :: X.outer := by rfl) (hf : X.env.frame = some L := by rfl) (hex : X.ex = [] := by rfl) (hg1 : Gl X c1 := by rfl) (hg2 : Gl X c2 := by rfl)
    (hd1 : (c1 == ("__debug__" : Str)) = false := by decide) (hd2 : (c2 == ("__debug__" : Str)) = false := by decide) :
    PS X (.Try body [.ExceptHandler (some (.Name c1 p1)) (some nx) (b1 :: su1) q1, .ExceptHandler (some (.Name c2 p2)) (some nx) (b2 :: su2) q2] [] [] pos) (tTryB X.K X.mg X.N.length tb c1 c2 m t1 t2) := by
  intro pins s σ H DD I h
  refine wpAny_Try_except (wpAny_mono (hb pins _ [] s σ H DD (I.tried _) h) (fun f s1 q => ?_) fun e s1 q => ?_)
  · have q' := SP.untried q
    cases f with
    | next => exact wpAny_execs_nil q'
    | brk => exact q'
    | cont => exact q'
    | ret u => exact q'
  · obtain ⟨x, C, T, σ', H2, s2, H', a0, rfl, I2, n1, n2, J, t, u1, u2, C2, ec, Z⟩ := q
    cases ec
    have fl := fly_of J t
    rw [hst] at fl
    refine wpAny_looks_onW (outer := X.outer) (by rw [J.ok.frames, hst]) hf fl fun h4 held us4 => ?_
    refine wpAny_landsW held fun h5 fl5 us5 => ?_
    have us45 := us4.trans us5
    rcases Z with ⟨Z, q⟩ | ⟨Zm, Z, q⟩
    · exact hand_hit hst hex hN hn hl I2 n1 n2 J u1 u2 fl5 us45 Z h1 (q x σ' J.len u1) hg1 hd1
    · exact hand_miss hst hex I2 n1 n2 J u1 u2 fl5 us45 Zm hg1 hd1 (hand_hit hst hex hN hn hl I2 n1 n2 J u1 u2 fl5 us45 Z h2 (q x σ' J.len u1) hg2 hd2)
end
end L2
namespace L2
open PySem PySem.Spec PyProof.Rows
/-! ### set(texts) of unlike ones, and how many they are (the steps are those of PyProof/Rows/SetFrom.lean, which is for ints) -/
noncomputable def keyS (xs : List Str) (i : Nat) : Key → Bool := fun k => (xs.take i).any fun x => decide (k = Sum.inr x)
theorem keyS_next {xs : List Str} (nd : xs.Nodup) {i : Nat} {x : Str} (h : xs[i]? = some x) : keyS xs i (Sum.inr x) = false ∧ ∀ k, (keyS xs i k || decide (k = Sum.inr x)) = keyS xs (i + 1) k := by
  have et : xs.take (i + 1) = xs.take i ++ [x] := by rw [List.take_add_one, h]; rfl
  have nn : x ∉ xs.take i := fun hx => by
    have n2 : (xs.take (i + 1)).Nodup := nd.sublist (List.take_sublist ..)
    rw [et, List.nodup_append] at n2
    exact n2.2.2 x hx x (by simp) rfl
  unfold keyS
  refine ⟨List.any_eq_false.mpr fun y hy => ?_, fun k => ?_⟩
  · rw [key_rr]
    simp only [decide_eq_true_eq]
    exact fun e => nn (e ▸ hy)
  · rw [et, List.any_append, List.any_cons, List.any_nil, Bool.or_false]
section
variable {P : Program} {w : World} {A : Around} {R : Result → Shared → Prop} {I : Addr} {fp wr : List Addr} {G : Array GenState → Array GenState → Prop} {PV : Nat → Value → Prop} {St : Nat → Shared → Prop} {xs : List Str}
theorem set_loopT (W : WalksS P w A.in1 I fp wr G xs.length PV St) (S : Addr) (hSf : S ∉ fp) (nd : xs.Nodup) (hval : ∀ i v, PV i v → ∃ x t, xs[i]? = some x ∧ v = .str x t) (hb : xs.length + 1 < scanBound) :
    ∀ (k i : Nat) (s : Shared), xs.length - i = k → i ≤ xs.length → St i s → s.heap.SetOf (mixKind P w) S (keyS xs i) i →
      (∀ s', Moved (S :: wr) G s s' → s'.heap.SetOf (mixKind P w) S (keyS xs xs.length) xs.length → R (.ok (.ret .none)) s') →
      codeAny (model P w) A (.builtin "set.update.loop" ⟨[.ref S, .ref I], []⟩) R s := by
  have hSw : S ∉ wr := fun h => hSf (W.sub _ h)
  have keep : ∀ {s s' : Shared} {i : Nat}, Moved wr G s s' → s.heap.SetOf (mixKind P w) S (keyS xs i) i → s'.heap.SetOf (mixKind P w) S (keyS xs i) i := fun hm ⟨o, es, ep, t, ho, r⟩ => ⟨o, es, ep, t, hm.heap S _ hSw ho, r⟩
  intro k
  induction k with
  | zero =>
    intro i s hk hi hst hS hR
    obtain rfl : i = xs.length := by omega
    refine codeAny_builtin F.entry_set_update_loop ?_
    rw [Around.under_plainId F.plain_set_update_loop _]
    refine wpAny_bind (m := pyNext (.ref I)) (W.done s _ _ hst fun s' hm => ?_)
    exact wpAny_pure (hR s' (hm.mono fun b hb => List.mem_cons_of_mem _ hb) (keep hm hS))
  | succ k ih =>
    intro i s hk hi hst hS hR
    have hlt : i < xs.length := by omega
    refine codeAny_builtin F.entry_set_update_loop ?_
    rw [Around.under_plainId F.plain_set_update_loop _]
    refine wpAny_bind (m := pyNext (.ref I)) (W.item i s _ _ hlt hst fun v s' hP hst' hm => ?_)
    obtain ⟨x, t, hx, rfl⟩ := hval i v hP
    obtain ⟨n1, n2⟩ := keyS_next nd hx
    have hS' := keep hm hS
    refine wpAny_bind (m := holding [Value.str x t] (setAdd S (.str x t))) (wpAny_holding ?_)
    unfold setAdd
    refine wpAny_holding (wpAny_bind ((mixKind P w).pyHash (k := Sum.inr x) (mixKind_str ..) ?_))
    refine wpAny_setAddHashed_of (knd := mixKind P w) (k := Sum.inr x) (s := { s' with toks := s'.toks + 1 }) (mixKind_str ..) rfl hS' (by omega) fun h' hsb hS2 => ?_
    rw [n1] at hS2
    have hSi : h'.SetOf (mixKind P w) S (keyS xs (i + 1)) (i + 1) := by
      rw [← funext n2]
      exact hS2
    refine wpAny_pure ⟨plainId_quiet F.plain_set_update_loop _, ih (i + 1) _ (by omega) hlt (W.frame _ s' _ _ hst' (Nat.le_succ _) fun b hb o e => ?_) hSi fun s'' hm'' hS'' => ?_⟩
    · rw [hsb.2 b (fun h : b = S => hSf (by rw [← h]; exact hb))]; exact e
    · refine hR s'' (Moved.trans W.gtrans ((hm.mono fun b hb => List.mem_cons_of_mem _ hb).then_heap (Nat.le_succ _) fun b o hb e => ?_) hm'') hS''
      rw [hsb.2 b (fun h : b = S => hb (by rw [h]; exact List.mem_cons_self))]; exact e
variable {E : Value → Shared → Prop} {s : Shared}
noncomputable def setE (led : Bool) : Obj := { cls := .type "set", dict := none, data := .set #[] 0 (.fresh 0 0 led) }
set_option maxHeartbeats 3200000 in
theorem call_setT {l : Addr} {items : List Value} {Q : Value → Shared → Prop} (hh : A.handled = none) (hl : s.heap.IsList l items.toArray) (hi : Vals (xs.map V.str) items) (nd : xs.Nodup) (hb : xs.length + 1 < scanBound)
    (h : ∀ (h' : Heap) (tk : Nat), h'.SetOf (mixKind P w) s.heap.objs.size (keyS xs xs.length) xs.length → (∀ b o, b < s.heap.objs.size → s.heap.get? b = some o → h'.get? b = some o) → Q (.ref s.heap.objs.size) { s with heap := h', toks := tk }) :
    wpAny (model P w) A (call (.type "set") [.ref l]) Q E s := by
  obtain ⟨c, tl, hmro⟩ := F.called_set.mro
  have hmade := F.called_set.made
  have hsub := F.called_set.sub
  have h1 := F.called_set.notType
  have h2 := F.called_set.canCreate
  have hct := F.typeCall_set_1 (.ref l)
  have hlen : xs.length = items.length := by have := hi.length; rw [List.length_map] at this; exact this
  refine wpAny_call (codeAny_of_tree ?_)
  show wpAny _ _ (callAny (.type "set") _) _ _ _
  refine wpAny_pure ⟨Code.quiet_builtin _ (by decide +kernel), codeAny_builtin F.entry_type_call ?_⟩
  rw [Around.under_plain (weight_type_call_type "set" [.ref l] []) rfl]
  repeat (any_goals (first | assumption | wp_step))
  refine codeAny_mono (code_set_new_1 (.ref l) (E := E) (Q₁ := fun obj s₁ => ∃ led : Bool, obj = .ref s.heap.objs.size ∧ s₁ = { s with heap := s.heap.push (setE led) }) fun led => ⟨led, rfl, rfl⟩) fun r s₁ hr => ?_
  cases r with
  | error e => exact hr
  | ok fl =>
    cases fl with
    | ret obj =>
      obtain ⟨led, rfl, rfl⟩ := hr
      have hS : (s.heap.push (setE led)).get? s.heap.objs.size = some (setE led) := Heap.get?_push_size _ rfl
      have hT : Shared.TypeIs { s with heap := s.heap.push (setE led) } (.ref s.heap.objs.size) "set" := ⟨_, hS, rfl⟩
      have hli := F.called_set.init.lookup
      have hbi := F.called_set.init.bind (.ref s.heap.objs.size)
      repeat (any_goals (first | assumption | wp_step))
      refine codeAny_mono (codeAny_call_builtin (R := wants (fun r s₂ => r = .none ∧ ∃ h' tk, s₂ = { s with heap := h', toks := tk } ∧ h'.SetOf (mixKind P w) s.heap.objs.size (keyS xs xs.length) xs.length ∧
          (∀ b o, b < s.heap.objs.size → s.heap.get? b = some o → h'.get? b = some o)) E) F.called_set.init.plain F.entry_set_init (check_set_init_1 hT ?_)) fun r₂ s₂ hr₂ => ?_
      · obtain ⟨⟨ocls, odict, odata, oslots⟩, hol, hcl, nl, hdl⟩ := hl
        simp only at hcl hdl
        subst hcl; subst hdl
        have hol' := Heap.get?_push_of_some (setE led) hol
        have hsls := F.sub_list_set
        have hslf := F.sub_list_frozenset
        have hne : (Value.type "list" == Value.type "dict") = false := by decide
        have hl1 : (s.heap.push (setE led)).IsList l items.toArray := ⟨_, hol', rfl, nl, rfl⟩
        unfold Builtin.«set.__init__» noKeywords Builtin.Frozenset.updateFrom
        generalize hPI : pyIter = PI
        wp_walk
        subst hPI
        refine wpAny_pyIter_list hl1 (wpAny_bind (wpAny_runValue ?_))
        have hlS : l < s.heap.objs.size := Heap.lt_size hol
        have hh3 : A.in1.in1.in1.handled = none := by simp [hh]
        have sz : (s.heap.push (setE led)).objs.size = s.heap.objs.size + 1 := Heap.size_push ..
        have hw := (Walks.list hh3 (prog := P) (w := w) (s.heap.push (setE led)).objs.size l (by rw [sz]; exact Nat.ne_of_lt (Nat.lt_succ_of_lt hlS)) items.toArray).toS
        have hval : ∀ (i : Nat) (v : Value), items.toArray[i]? = some v → ∃ x t, xs[i]? = some x ∧ v = .str x t := fun i v hv => by
          have hv' : items[i]? = some v := by simpa using hv
          have hil : i < xs.length := by have := (List.getElem?_eq_some_iff.mp hv').1; omega
          obtain ⟨u, e1, e2⟩ := paired_at (i := i) (x := .str xs[i]) hi (by simp [hil])
          rw [hv'] at e1
          cases e1
          obtain ⟨t, e⟩ := e2
          exact ⟨_, t, List.getElem?_eq_getElem hil, e⟩
        rw [show items.toArray.size = xs.length by simp [hlen]] at hw
        refine set_loopT hw s.heap.objs.size (by rw [sz]; simp only [List.mem_cons, List.mem_singleton, List.not_mem_nil, or_false, not_or]; exact ⟨Nat.ne_of_lt (Nat.lt_succ_self _), Nat.ne_of_gt hlS⟩) nd hval hb (xs.length - 0) 0 _ rfl (Nat.zero_le _) ⟨⟨_, Heap.get?_push_size _ rfl, rfl, rfl⟩, hl1.push _⟩ ?hS0 ?hR
        case hS0 => exact ⟨setE led, #[], 0, _, Heap.get?_push_of_some _ hS, ⟨rfl, rfl, rfl⟩, rfl, fun e he => by simp at he, fun k => by simp [keyS], by unfold scanBound; decide, by rfl, rfl⟩
        case hR =>
          intro s' hm hS'
          obtain ⟨h', g', d', tk', os'⟩ := s'
          obtain rfl : g' = s.gens := hm.gens
          obtain rfl : d' = s.drawn := hm.drawn
          obtain rfl : os' = s.os := hm.os
          refine wpAny_pure (wpAny_pure ⟨rfl, h', tk', rfl, hS', fun b o hb e => ?_⟩)
          exact hm.heap b o (by rw [sz]; simp only [List.mem_cons, List.mem_singleton, List.not_mem_nil, or_false, not_or]; exact ⟨Nat.ne_of_lt hb, Nat.ne_of_lt (Nat.lt_succ_of_lt hb)⟩) (Heap.get?_push_of_some _ (Heap.get?_push_of_some _ e))
      · cases r₂ with
        | error e => exact hr₂
        | ok fl₂ =>
          cases fl₂ with
          | ret r =>
            obtain ⟨rfl, h', tk, rfl, hS', hk'⟩ := hr₂
            repeat (any_goals (first | assumption | wp_step))
            exact h _ _ hS' hk'
          | _ => exact hr₂.elim
    | _ => exact hr.elim
end
/-- a set of n things -/
noncomputable def SetN (a : Addr) (n : Nat) : HO := .ext fun h => ∃ o es ep t, h.get? a = some o ∧ o.ExactSet ∧ o.data = .set es ep t ∧ t.fits es.size = true ∧ es.size = n
section
variable {X : Cx}
theorem call_setOfT (hc : X.calm = true) : CallR X (.type "set") (fun xs H Q => ∃ (p : Addr) (ss : List Str), xs = [.ref p] ∧ SqL X.K H p (ss.map V.str) ∧ ss.Nodup ∧ ss.length < 1000 ∧ ∀ l, H l = none → Q (.ref l) (upd H l (SetN l ss.length))) := by
  intro pins s σ H xs us Q I r h
  obtain ⟨p, ss, rfl, hq, nd, hn, q⟩ := h
  obtain ⟨u, rfl, rx⟩ := vals1 r
  cases rx
  obtain ⟨its, r', pl, hz⟩ := I.list hq
  refine call_setT (I.ok.hd hc) pl.isList r' nd (by unfold scanBound; omega) (fun h' tk hS k => ?_)
  obtain ⟨o, es, ep, t, e1, e2, e3, _, _, _, e4, e5⟩ := hS
  refine ⟨.ref s.heap.objs.size, _, I.laid (t' := tk) (fun b o e => k b o (Heap.lt_size e) e) (Nat.le_refl _) (show ObjOk X.prog X.w _ h' _ (SetN _ _) from ⟨⟨o, es, ep, t, e1, e2, e3, e4, e5⟩, ⟨o, e1⟩, fun h1 h2 ⟨o, es, ep, t, e1, r⟩ k => ⟨o, es, ep, t, k o e1, r⟩⟩), rfl, q _ (I.hok.fresh (Nat.le_refl _))⟩
theorem call_len_setN : CallR X (.builtin "len") (fun xs H Q => ∃ p n, xs = [.ref p] ∧ H p = some (SetN p n) ∧ n < 4096 ∧ Q (.int n) H) := by
  intro pins s σ H xs us Q I r h
  obtain ⟨p, n, rfl, hH, hn, q⟩ := h
  obtain ⟨u, rfl, rx⟩ := vals1 r
  cases rx
  obtain ⟨o, es, ep, t, ho, hex, hd, hf, rfl⟩ := (I.hok p _ hH).1
  exact call_len_set ho hex hd hf (by omega) ⟨.int es.size, H, I.tok _, ⟨_, rfl⟩, q⟩
end
end L2
namespace L2
open PySem PySem.Spec PyProof.Rows
/-! ### zip of a tuple and a list (after PyProof/ZipIter.lean, which is for two lists; here whatever the two draw from) -/
structure ZipD (z TI TO i1 i2 : Addr) (f1 f2 : List Addr) : Prop where
  TIz : TI ≠ z
  TOz : TO ≠ z
  i1z : i1 ≠ z
  i2z : i2 ≠ z
  TITO : TI ≠ TO
  TIi1 : TI ≠ i1
  TIi2 : TI ≠ i2
  TOi1 : TO ≠ i1
  TOi2 : TO ≠ i2
  i12 : i1 ≠ i2
  f1z : z ∉ f1
  f1T : TO ∉ f1
  f12 : i2 ∉ f1
  f2z : z ∉ f2
  f2T : TO ∉ f2
  f21 : i1 ∉ f2
section
variable {P : Program} {w : World} {A : Around} {E : Value → Shared → Prop} {s : Shared} {z TI TO i1 i2 : Addr} {f1 f2 : List Addr} {n1 n2 k : Nat} {P1 P2 : Nat → Value → Prop} {S1 S2 : Nat → Heap → Prop} {a b : Value}
theorem ext_of {x : Addr} {h h' : Heap} (sb : Heap.SameBut x h h') : ∀ c o, c ≠ x → h.get? c = some o → h'.get? c = some o := fun c o hc e => (sb.2 c hc).trans e
theorem zip_itemD {Q : Value → Shared → Prop} (D : ZipD z TI TO i1 i2 f1 f2) (D1 : Draws P w A i1 f1 n1 P1 S1) (D2 : Draws P w A i2 f2 n2 P2 S2) (l1 : k < n1) (l2 : k < n2)
    (hz : IsZip s.heap z TI TO .none) (hTI : IsPair s.heap TI (.ref i1) (.ref i2)) (hTO : IsPair s.heap TO a b) (h1 : S1 k s.heap) (h2 : S2 k s.heap)
    (hQ : ∀ h' tk x y, P1 k x → P2 k y → IsZip h' z TI TO (rawInt s.heap.objs.size) → IsPair h' TO x y → S1 (k + 1) h' → S2 (k + 1) h' → IsPair h' s.heap.objs.size x y →
      (∀ c o, c ≠ z → c ≠ TO → c ≠ i1 → c ≠ i2 → s.heap.get? c = some o → h'.get? c = some o) → Q (.ref s.heap.objs.size) { s with heap := h', toks := tk }) :
    wpAny (model P w) A (Builtin.«zip.__next__» ⟨[.ref z], []⟩) (fun fin s' => ∃ v, fin = .done (.ret v) ∧ Q v s') E s := by
  refine wpAny_bind (m := field (.ref z) 2) (wpAny_field hz rfl (x := .bool false) rfl ?_)
  refine wpAny_bind (m := field (.ref z) 3) (wpAny_field hz rfl (x := .ref TI) rfl ?_)
  refine wpAny_bind (wpAny_seqItems hTI rfl ?_)
  refine wpAny_bind (m := Builtin.SmallTypes.ownedTupleIsFree (.ref z)) ?_
  unfold Builtin.SmallTypes.ownedTupleIsFree
  refine wpAny_bind (wpAny_field hz rfl (x := .none) rfl (wpAny_pure ?_))
  simp only [if_true]
  refine wpAny_bind (wpAny_rule ?_)
  refine wpAny_bind (wpAny_field hz rfl (x := .ref TO) rfl ?_)
  refine wpAny_bind (wpAny_setField_rec hz (by simp) fun ha hza sa => ?_)
  replace hza : IsZip ha z TI TO .ellipsis := hza
  refine wpAny_bind ?_
  simp only [List.zipIdx_cons, List.zipIdx_nil, List.forIn_cons, List.forIn_nil]
  refine wpAny_bind (wpAny_bind (wpAny_onRaise ?_))
  refine wpAny_bind (m := Builtin.SmallTypes.nextOf (.ref i1)) (D1.item k _ _ _ l1 (D1.frame _ _ _ h1 fun c hc o e => ext_of sa c o (fun q => D.f1z (q ▸ hc)) e) fun x hb tb px sx sb => wpAny_pure ?_)
  have hTb : IsPair hb TO a b := ext_of sb _ _ D.TOi1 (ext_of sa _ _ D.TOz hTO)
  refine wpAny_bind (wpAny_seqItems hTb rfl ?_)
  refine wpAny_bind (wpAny_updateSeq_pair hTb fun hc hTc sc => ?_)
  replace hTc : IsPair hc TO x b := hTc
  refine wpAny_bind (wpAny_letGo (wpAny_pure ?_))
  refine wpAny_bind (wpAny_bind (wpAny_onRaise ?_))
  refine wpAny_bind (m := Builtin.SmallTypes.nextOf (.ref i2)) (D2.item k _ _ _ l2 (D2.frame _ _ _ h2 fun c hf o e => ext_of sc c o (fun q => D.f2T (q ▸ hf)) (ext_of sb c o (fun q => D.f21 (q ▸ hf)) (ext_of sa c o (fun q => D.f2z (q ▸ hf)) e))) fun y hd td py sy sd => wpAny_pure ?_)
  have hTd : IsPair hd TO x b := ext_of sd _ _ D.TOi2 hTc
  refine wpAny_bind (wpAny_seqItems hTd rfl ?_)
  refine wpAny_bind (wpAny_updateSeq_pair hTd fun he hTe se => ?_)
  replace hTe : IsPair he TO x y := hTe
  refine wpAny_bind (wpAny_letGo (wpAny_pure (wpAny_pure ?_)))
  refine wpAny_bind (wpAny_seqItems hTe rfl ?_)
  refine wpAny_bind (wpAny_newTuple ?_)
  have hsz : he.objs.size = s.heap.objs.size := by rw [se.1, sd.1, sc.1, sb.1, sa.1]
  have hze : IsZip he z TI TO .ellipsis := ext_of se _ _ D.TOz.symm (ext_of sd _ _ D.i2z.symm (ext_of sc _ _ D.TOz.symm (ext_of sb _ _ D.i1z.symm hza)))
  have ke : ∀ c o, c ≠ z → c ≠ TO → c ≠ i1 → c ≠ i2 → s.heap.get? c = some o → he.get? c = some o := fun c o c1 c2 c3 c4 e => ext_of se _ _ c2 (ext_of sd _ _ c4 (ext_of sc _ _ c2 (ext_of sb _ _ c3 (ext_of sa _ _ c1 e))))
  have x1 : S1 (k + 1) he := D1.frame _ _ _ sx fun c hf o e => ext_of se c o (fun q => D.f1T (q ▸ hf)) (ext_of sd c o (fun q => D.f12 (q ▸ hf)) (ext_of sc c o (fun q => D.f1T (q ▸ hf)) e))
  have x2 : S2 (k + 1) he := D2.frame _ _ _ sy fun c hf o e => ext_of se c o (fun q => D.f2T (q ▸ hf)) e
  have zlt : z < he.objs.size := Heap.lt_size hze
  refine wpAny_bind (m := Builtin.SmallTypes.ownedTupleHandOut (.ref z) (.ref he.objs.size)) ?_
  unfold Builtin.SmallTypes.ownedTupleHandOut
  have hzp : IsZip (he.push { cls := .type "tuple", data := .seq #[x, y] }) z TI TO .ellipsis := Heap.get?_push_of_some _ hze
  refine wpAny_bind (wpAny_setField_rec hzp (by simp) fun hg hzg sg => ?_)
  replace hzg : IsZip hg z TI TO (rawInt he.objs.size) := hzg
  refine wpAny_setField_rec hzg (by simp) fun hi hzi si => ?_
  replace hzi : IsZip hi z TI TO (rawInt he.objs.size) := hzi
  have up : ∀ c o, c ≠ z → he.get? c = some o → hi.get? c = some o := fun c o c1 e => ext_of si _ _ c1 (ext_of sg _ _ c1 (Heap.get?_push_of_some _ e))
  have hTi : IsPair hi he.objs.size x y := ext_of si _ _ (Nat.ne_of_gt zlt) (ext_of sg _ _ (Nat.ne_of_gt zlt) (Heap.get?_push_size _ rfl))
  rw [hsz] at hzi hTi
  refine wpAny_pure ⟨_, rfl, ?_⟩
  show Q (.ref he.objs.size) _
  rw [hsz]
  exact hQ hi _ x y px py hzi (up _ _ D.TOz hTe) (D1.frame _ _ _ x1 fun c hf o e => up c o (fun q => D.f1z (q ▸ hf)) e) (D2.frame _ _ _ x2 fun c hf o e => up c o (fun q => D.f2z (q ▸ hf)) e) hTi fun c o c1 c2 c3 c4 e => up c o c1 (ke c o c1 c2 c3 c4 e)
theorem zip_doneD {Q : PySem.Fin → Shared → Prop} (D : ZipD z TI TO i1 i2 f1 f2) (D1 : Draws P w A i1 f1 n1 P1 S1)
    (hz : IsZip s.heap z TI TO .none) (hTI : IsPair s.heap TI (.ref i1) (.ref i2)) (h1 : S1 n1 s.heap)
    (hE : ∀ h' e, (∀ c o, c ≠ z → c ≠ i1 → s.heap.get? c = some o → h'.get? c = some o) → (∃ o, h'.get? e = some o ∧ o.cls = .type "StopIteration") → E (.ref e) { s with heap := h' }) :
    wpAny (model P w) A (Builtin.«zip.__next__» ⟨[.ref z], []⟩) Q E s := by
  refine wpAny_bind (m := field (.ref z) 2) (wpAny_field hz rfl (x := .bool false) rfl ?_)
  refine wpAny_bind (m := field (.ref z) 3) (wpAny_field hz rfl (x := .ref TI) rfl ?_)
  refine wpAny_bind (wpAny_seqItems hTI rfl ?_)
  refine wpAny_bind (m := Builtin.SmallTypes.ownedTupleIsFree (.ref z)) ?_
  unfold Builtin.SmallTypes.ownedTupleIsFree
  refine wpAny_bind (wpAny_field hz rfl (x := .none) rfl (wpAny_pure ?_))
  simp only [if_true]
  refine wpAny_bind (wpAny_rule ?_)
  refine wpAny_bind (wpAny_field hz rfl (x := .ref TO) rfl ?_)
  refine wpAny_bind (wpAny_setField_rec hz (by simp) fun ha hza sa => ?_)
  replace hza : IsZip ha z TI TO .ellipsis := hza
  refine wpAny_bind ?_
  simp only [List.zipIdx_cons, List.zipIdx_nil, List.forIn_cons, List.forIn_nil]
  refine wpAny_bind (wpAny_bind (wpAny_onRaise ?_))
  refine wpAny_bind (m := Builtin.SmallTypes.nextOf (.ref i1)) (D1.done _ _ _ (D1.frame _ _ _ h1 fun c hc o e => ext_of sa c o (fun q => D.f1z (q ▸ hc)) e) fun hb e sb he => ?_)
  obtain ⟨oe, hoe, hce⟩ := he
  have hzb : IsZip hb z TI TO .ellipsis := sb _ _ D.i1z.symm hza
  have hez : e ≠ z := fun x => by subst x; rw [hzb] at hoe; cases hoe; simp at hce
  exact wpAny_setField_rec hzb (by simp) fun hc _ sc => hE hc e (fun c o c1 c3 x => ext_of sc _ _ c1 (sb _ _ c3 (ext_of sa _ _ c1 x))) ⟨oe, ext_of sc _ _ hez hoe, hce⟩
theorem nx_zip {Q : Option Value → Shared → Prop} (D : ZipD z TI TO i1 i2 f1 f2) (D1 : Draws P w A.in1 i1 f1 n1 P1 S1) (D2 : Draws P w A.in1 i2 f2 n2 P2 S2) (l1 : k < n1) (l2 : k < n2)
    (hz : IsZip s.heap z TI TO .none) (hTI : IsPair s.heap TI (.ref i1) (.ref i2)) (hTO : IsPair s.heap TO a b) (h1 : S1 k s.heap) (h2 : S2 k s.heap)
    (hQ : ∀ h' tk x y, P1 k x → P2 k y → IsZip h' z TI TO (rawInt s.heap.objs.size) → IsPair h' TO x y → S1 (k + 1) h' → S2 (k + 1) h' → IsPair h' s.heap.objs.size x y →
      (∀ c o, c ≠ z → c ≠ TO → c ≠ i1 → c ≠ i2 → s.heap.get? c = some o → h'.get? c = some o) → Q (some (.ref s.heap.objs.size)) { s with heap := h', toks := tk }) : wpAny (model P w) A (pyNext (.ref z)) Q E s := by
  have hT : s.TypeIs (.ref z) "zip" := ⟨_, hz, rfl⟩
  unfold pyNext
  exact wpAny_bind (wpAny_attempt (wpAny_callSpecial?_slot (name := Str.ofString "__next__") hT F.slot_zip_next (wpAny_call_entry F.slot_zip_next hT F.entry_zip_next
      (zip_itemD D D1 D2 l1 l2 hz hTI hTO h1 h2 fun h' tk x y a1 a2 a3 a4 a5 a6 a7 a8 => wpAny_pure (hQ h' tk x y a1 a2 a3 a4 a5 a6 a7 a8)) (F.args_zip_next_1 _))))
theorem nx_zip0 {Q : Option Value → Shared → Prop} (D : ZipD z TI TO i1 i2 f1 f2) (D1 : Draws P w A.in1 i1 f1 n1 P1 S1) (hz : IsZip s.heap z TI TO .none) (hTI : IsPair s.heap TI (.ref i1) (.ref i2)) (h1 : S1 n1 s.heap)
    (hQ : ∀ h', (∀ c o, c ≠ z → c ≠ i1 → s.heap.get? c = some o → h'.get? c = some o) → Q none { s with heap := h' }) : wpAny (model P w) A (pyNext (.ref z)) Q E s := by
  have hT : s.TypeIs (.ref z) "zip" := ⟨_, hz, rfl⟩
  unfold pyNext
  refine wpAny_bind (wpAny_attempt (wpAny_callSpecial?_slot (name := Str.ofString "__next__") hT F.slot_zip_next
    (wpAny_call_entry F.slot_zip_next hT F.entry_zip_next (zip_doneD D D1 hz hTI h1 fun h' e hk he => ?_) (F.args_zip_next_1 _))))
  obtain ⟨o, ho, hc⟩ := he
  refine wpAny_bind (wpAny_isInstance (T := "StopIteration") (b := true) ⟨o, ho, hc⟩ isSubtype_stop ?_)
  exact wpAny_pure (hQ _ hk)
end
section
variable {X : Cx} {pins : List (Addr × Obj)} {σ : St} {H : Hp} {s : Shared} {h' : Heap}
/-- records of ours have turned, and a tuple is laid -/
theorem turnedL {t' : Nat} {ch : List Addr} {T : Addr} {xs : List V} (I : Inv X pins σ H s) (k : ∀ b o, b ∉ ch → s.heap.get? b = some o → h'.get? b = some o) (hc : ∀ b ∈ ch, FpOk X pins H b)
    (hT : s.heap.objs.size ≤ T) (new : ObjOk X.prog X.w (upd H T (.tup xs)) h' T (.tup xs)) : Inv X pins σ (upd H T (.tup xs)) { s with heap := h', toks := t' } := by
  have hn : H T = none := I.hok.fresh hT
  have nt : ∀ b o, s.heap.get? b = some o → b ≠ T := fun b o g z => absurd (Nat.lt_of_lt_of_le (Heap.lt_size g) (z ▸ hT)) (Nat.lt_irrefl _)
  have ue : ∀ b u, H b = some u → upd H T (.tup xs) b = some u := fun b u g => by rw [upd_ne (ne_of_none g hn)]; exact g
  refine I.step (g' := s.gens) (d' := s.drawn) (ch := ch) (fun b hb => ?_) (fun b o _ _ hc g _ => k b o hc g) (fun b o _ _ hc g _ => ⟨o.slots, k b o hc g⟩) (fun b o _ g n => by rw [upd_ne (nt b o g)]; exact n)
    (fun b o hc g => ⟨o, k b o hc g⟩) (fun b ys g => ue b _ g) (fun b o u g => ue b _ g) (fun b ps g => ⟨#[], by rw [ue b _ g]; simp⟩) (fun m hm => ?_) (fun b u g => ?_) I.bare
  · obtain ⟨e0, e1, e2, e3, e4, e5⟩ := hc b hb
    exact ⟨e3, e1, e4, e5⟩
  · obtain ⟨o, es, ep, ho, r⟩ := hm
    exact ⟨o, es, ep, k _ o (fun z => (hc _ z).2.1 rfl) ho, r⟩
  · by_cases hb : b = T
    · subst hb; rw [upd_same] at g; cases g; exact new
    · rw [upd_ne hb] at g
      refine (I.hok b u g).stay (fun c v hcc q => ?_) (fun c q => ue c _ q) fun c ys q => ue c _ q
      have z : ∃ u', H c = some u' := by
        rcases hcc with z | z
        · exact ⟨u, z ▸ g⟩
        · exact ⟨_, z⟩
      obtain ⟨u', z⟩ := z
      exact k c v (fun y => by rw [(hc c y).1] at z; cases z) q
theorem turnedL0 {t' : Nat} {ch : List Addr} (I : Inv X pins σ H s) (k : ∀ b o, b ∉ ch → s.heap.get? b = some o → h'.get? b = some o) (hc : ∀ b ∈ ch, FpOk X pins H b) : Inv X pins σ H { s with heap := h', toks := t' } := by
  refine I.step (g' := s.gens) (d' := s.drawn) (ch := ch) (fun b hb => ?_) (fun b o _ _ hc g _ => k b o hc g) (fun b o _ _ hc g _ => ⟨o.slots, k b o hc g⟩) (fun b o _ g n => n)
    (fun b o hc g => ⟨o, k b o hc g⟩) (fun _ _ e => e) (fun _ _ _ e => e) (fun b ps e => ⟨#[], by rw [e]; simp⟩) (fun m hm => ?_) (fun b u g => ?_) I.bare
  · obtain ⟨e0, e1, e2, e3, e4, e5⟩ := hc b hb
    exact ⟨e3, e1, e4, e5⟩
  · obtain ⟨o, es, ep, ho, r⟩ := hm
    exact ⟨o, es, ep, k _ o (fun z => (hc _ z).2.1 rfl) ho, r⟩
  · refine (I.hok b u g).stay (fun c v hcc q => ?_) (fun _ q => q) fun _ _ q => q
    have z : ∃ u', H c = some u' := by
      rcases hcc with z | z
      · exact ⟨u, z ▸ g⟩
      · exact ⟨_, z⟩
    obtain ⟨u', z⟩ := z
    exact k c v (fun y => by rw [(hc c y).1] at z; cases z) q
end
/-- the items of a tuple and of a list of the same length -/
noncomputable def Itz (K : PySem.W.Frag) (a l : Addr) : It :=
  ⟨fun i H => ∃ xs ys x y, SqT K H a xs ∧ SqL K H l ys ∧ xs[i]? = some x ∧ ys[i]? = some y, fun i H x H' => ∃ T u v, H T = none ∧ x = .ref T ∧ H' = upd H T (.tup [u, v]) ∧ (∀ xs, SqT K H a xs → xs[i]? = some u) ∧ ∀ ys, SqL K H l ys → ys[i]? = some v,
   fun i H => ∃ xs, SqT K H a xs ∧ xs.length = i⟩
theorem zipD_new {n l1 l2 : Addr} (h1 : l1 < n) (h2 : l2 < n) : ZipD (n + 4) (n + 2) (n + 3) n (n + 1) [n, l1] [n + 1, l2] := by
  have a1 := Nat.ne_of_lt h1
  have a2 := Nat.ne_of_lt h2
  have g : ∀ {x : Nat} (k : Nat), x < n → x ≠ n + k := fun k h => Nat.ne_of_lt (Nat.lt_of_lt_of_le h (Nat.le_add_right _ _))
  have e : ∀ i j : Nat, i ≠ j → n + i ≠ n + j := fun i j h q => h (Nat.add_left_cancel q)
  have e0 : ∀ j : Nat, j ≠ 0 → n ≠ n + j := fun j h q => h (by have : n + 0 = n + j := q; exact (Nat.add_left_cancel this).symm)
  refine ⟨e _ _ (by decide), e _ _ (by decide), e0 _ (by decide), e _ _ (by decide), e _ _ (by decide), (e0 _ (by decide)).symm, e _ _ (by decide), (e0 _ (by decide)).symm, e _ _ (by decide), e0 _ (by decide), ?_, ?_, ?_, ?_, ?_, ?_⟩ <;> simp only [List.mem_cons, List.mem_singleton, List.not_mem_nil, or_false, not_or]
  · exact ⟨(e0 _ (by decide)).symm, (g 4 h1).symm⟩
  · exact ⟨(e0 _ (by decide)).symm, (g 3 h1).symm⟩
  · exact ⟨(e0 _ (by decide)).symm, (g 1 h1).symm⟩
  · exact ⟨e _ _ (by decide), (g 4 h2).symm⟩
  · exact ⟨e _ _ (by decide), (g 3 h2).symm⟩
  · exact ⟨e0 _ (by decide), (g 0 h2).symm⟩
/-- the records of a walk over zip(a, l) -/
noncomputable def ZipSt (z TI TO i1 i2 a l : Addr) (i : Nat) (h : Heap) : Prop := IsZip h z TI TO .none ∧ IsPair h TI (.ref i1) (.ref i2) ∧ (∃ x y, IsPair h TO x y) ∧ h.IsTupleIter i1 a i ∧ h.IsListIter i2 l i
theorem turn_zip {P : Program} {w : World} {K : PySem.W.Frag} {elts : List Expr} {x1 : Nat} {pos : Pos} (a l z TI TO i1 i2 : Addr) (D : ZipD z TI TO i1 i2 [i1, a] [i2, l]) :
    Turn P w K (.Tuple elts x1 pos) (Itz K a l) [z, TI, TO, i1, i2] z (ZipSt z TI TO i1 i2 a l) where
  mem := by simp
  obj := fun i h st b hb => by
    obtain ⟨s1, s2, ⟨x, y, s3⟩, ⟨o4, e4, c4, d4⟩, o5, e5, c5, d5⟩ := st
    have q : b = z ∨ b = TI ∨ b = TO ∨ b = i1 ∨ b = i2 := by simpa using hb
    rcases q with rfl | rfl | rfl | rfl | rfl
    · exact ⟨_, s1, fun v z => by cases z⟩
    · exact ⟨_, s2, fun v z => by cases z⟩
    · exact ⟨_, s3, fun v z => by cases z⟩
    · exact ⟨o4, e4, fun v z => by rw [d4] at z; cases z⟩
    · exact ⟨o5, e5, fun v z => by rw [d5] at z; cases z⟩
  keep := fun i h h' st k => by
    obtain ⟨s1, s2, ⟨x, y, s3⟩, s4, s5⟩ := st
    exact ⟨k z (by simp) _ s1, k TI (by simp) _ s2, ⟨x, y, k TO (by simp) _ s3⟩, s4.at fun o g => k i1 (by simp) o g, s5.at fun o g => k i2 (by simp) o g⟩
  item := by
    intro X hP hw hK hc i pins s σ H E I hf st hg
    subst hP hw hK
    obtain ⟨xs, ys, x, y, hqa, hql, hx, hy⟩ := hg
    obtain ⟨its, rv, p, hz⟩ := I.tuple hqa
    obtain ⟨jts, rw', pl, hz'⟩ := I.list hql
    obtain ⟨u, hu, ru⟩ := rv.get hx
    obtain ⟨v, hv, rv'⟩ := rw'.get hy
    obtain ⟨s1, s2, ⟨x0, y0, s3⟩, s4, s5⟩ := id st
    have ha1 : a ≠ i1 := fun q => by
      obtain ⟨o, g1, c1, _⟩ := s4
      obtain ⟨o', g2, c2, _⟩ := p
      rw [q, g1] at g2
      cases g2
      rw [c1] at c2
      exact absurd c2 (by decide)
    have hl2 : l ≠ i2 := fun q => by
      obtain ⟨o, g1, c1, _⟩ := s5
      obtain ⟨o', n', g2, c2, _⟩ := pl
      rw [q, g1] at g2
      cases g2
      rw [c1] at c2
      exact absurd c2 (by decide)
    have D1 : Draws X.prog X.w X.A.in1 i1 [i1, a] its.toArray.size (fun i x => its.toArray[i]? = some x) (fun i h => h.IsTupleIter i1 a i ∧ h.IsTuple a its.toArray) := drawsT (I.ok.hd hc) ha1
    have D2 := Draws.list (prog := X.prog) (w := X.w) (A := X.A.in1) (I.ok.hd hc) i2 l hl2 jts.toArray
    have lt1 : i < its.toArray.size := by simpa using (List.getElem?_eq_some_iff.mp hu).1
    have lt2 : i < jts.toArray.size := by simpa using (List.getElem?_eq_some_iff.mp hv).1
    refine nx_zip D D1 D2 lt1 lt2 s1 s2 s3 ⟨s4, p⟩ ⟨s5, pl.isList⟩ fun h' tk xx yy px py o1 o2 o3 o4 o5 k => ?_
    have ex : xx = u := by
      have q : its.toArray[i]? = some u := by simpa using hu
      rw [q] at px; exact (Option.some.inj px).symm
    have ey : yy = v := by
      have q : jts.toArray[i]? = some v := by simpa using hv
      rw [q] at py; exact (Option.some.inj py).symm
    subst ex ey
    refine ⟨_, rfl, ?_⟩
    refine wpAny_letOwnedTupleGo_zip (s := { s with heap := h', toks := tk }) o1 fun h2 hz2 sb => ?_
    have up : ∀ c o, c ≠ z → h'.get? c = some o → h2.get? c = some o := fun c o hc e => (sb.2 c hc).trans e
    have nz : s.heap.objs.size ≠ z := Nat.ne_of_gt (Heap.lt_size s1)
    have kk : ∀ b o, b ∉ [z, TI, TO, i1, i2] → s.heap.get? b = some o → h2.get? b = some o := fun b o hb e => by
      simp only [List.mem_cons, List.not_mem_nil, or_false, not_or] at hb
      exact up b o hb.1 (k b o hb.1 hb.2.2.1 hb.2.2.2.1 hb.2.2.2.2 e)
    refine ⟨.ref s.heap.objs.size, upd H s.heap.objs.size (.tup [x, y]), (show Inv X pins σ (upd H s.heap.objs.size (.tup [x, y])) { s with heap := h2, toks := tk } from turnedL (s := s) (h' := h2) (t' := tk) I kk hf (Nat.le_refl _) ?_), rfl,
      ⟨_, x, y, I.hok.fresh (Nat.le_refl _), rfl, rfl, fun zs hy' => by rw [I.tuple_inj hy' hqa]; exact hx, fun zs hy' => by rw [I.list_inj hy' hql]; exact hy⟩, ?_, fun b hb => ?_⟩
    · exact ⟨by show 2 ≤ sizeLine; decide, [xx, yy], .cons ru (.cons rv' .nil), ⟨_, up _ _ nz o5, rfl, _, rfl⟩⟩
    · exact ⟨hz2, up _ _ D.TIz (k _ _ D.TIz D.TITO D.TIi1 D.TIi2 s2), ⟨_, _, up _ _ D.TOz o2⟩, o3.1.at fun o g => up _ o D.i1z g, o4.1.at fun o g => up _ o D.i2z g⟩
    · have nb : b ≠ s.heap.objs.size := by
        have q : b = z ∨ b = TI ∨ b = TO ∨ b = i1 ∨ b = i2 := by simpa using hb
        obtain ⟨o4', e4, _⟩ := s4
        obtain ⟨o5', e5, _⟩ := s5
        rcases q with rfl | rfl | rfl | rfl | rfl
        · exact Nat.ne_of_lt (Heap.lt_size s1)
        · exact Nat.ne_of_lt (Heap.lt_size s2)
        · exact Nat.ne_of_lt (Heap.lt_size s3)
        · exact Nat.ne_of_lt (Heap.lt_size e4)
        · exact Nat.ne_of_lt (Heap.lt_size e5)
      rw [upd_ne nb]
      exact (hf b hb).1
  done := by
    intro X hP hw hK hc i pins s σ H E I hf st hg
    subst hP hw hK
    obtain ⟨xs, hqa, hx⟩ := hg
    obtain ⟨its, rv, p, hz⟩ := I.tuple hqa
    obtain ⟨s1, s2, ⟨x0, y0, s3⟩, s4, s5⟩ := id st
    have ha1 : a ≠ i1 := fun q => by
      obtain ⟨o, g1, c1, _⟩ := s4
      obtain ⟨o', g2, c2, _⟩ := p
      rw [q, g1] at g2
      cases g2
      rw [c1] at c2
      exact absurd c2 (by decide)
    have D1 : Draws X.prog X.w X.A.in1 i1 [i1, a] its.toArray.size (fun i x => its.toArray[i]? = some x) (fun i h => h.IsTupleIter i1 a i ∧ h.IsTuple a its.toArray) := drawsT (I.ok.hd hc) ha1
    have el : i = its.toArray.size := by
      have := rv.length
      simp
      omega
    refine nx_zip0 D D1 s1 s2 ⟨el ▸ s4, p⟩ fun h' k => ⟨rfl, turnedL0 (t' := s.toks) I (fun b o hb e => k b o ?_ ?_ e) hf⟩
    · exact fun q => hb (by simp [q])
    · exact fun q => hb (by simp [q])
  self := fun A i s Q E st h => wpAny_pyIter_zip st.1 h
noncomputable abbrev zpH1 (h : Heap) (a : Addr) : Heap := h.push { cls := .type "tuple_iterator", data := .fields #[.ref a, .int 0 0] }
noncomputable abbrev zpH2 (h : Heap) (a l : Addr) : Heap := (zpH1 h a).push { cls := .type "list_iterator", data := .fields #[.ref l, .int 0 0] }
noncomputable abbrev zpH3 (h : Heap) (a l : Addr) : Heap := (zpH2 h a l).push { cls := .type "tuple", data := .seq #[.ref h.objs.size, .ref (zpH1 h a).objs.size] }
noncomputable abbrev zpH4 (h : Heap) (a l : Addr) : Heap := (zpH3 h a l).push { cls := .type "tuple", data := .seq #[.none, .none] }
noncomputable abbrev zpH5 (h : Heap) (a l : Addr) : Heap := (zpH4 h a l).push { cls := .type "zip", data := .fields #[.none, .bool false, .bool false, .ref (zpH2 h a l).objs.size, .ref (zpH3 h a l).objs.size] }
theorem new_zipT (a l : Addr) (xs ys : Array Value) : Meets (Builtin.«zip.__new__» ⟨[.type "zip", .ref a, .ref l], []⟩) (fun _ R s => s.heap.IsTuple a xs ∧ s.heap.IsList l ys ∧ R (.ok (.ret (.ref (zpH4 s.heap a l).objs.size))) { s with heap := zpH5 s.heap a l }) :=
  .of_wp fun prog w A R s h => by
    obtain ⟨hp, g, d, tk, os⟩ := s
    obtain ⟨ha, hl, h⟩ := h
    have hsub := sub_zip
    have h1 : Heap.IsTuple (Shared.heap ⟨hp, g, d, tk, os⟩) a xs := ha
    have h2 : Heap.IsList (Shared.heap ⟨zpH1 hp a, g, d, tk, os⟩) l ys := Heap.IsList.push hl _
    wp_walk using wpAny_pyIter_tuple h1, wpAny_pyIter_list h2
    exact ⟨_, rfl, h⟩
section
variable {X : Cx} {elts : List Expr} {x1 : Nat} {tp : Pos}
/-- for x, y in zip(a, l), a a tuple, l a list -/
noncomputable def iZip (K : PySem.W.Frag) (ta : TA) : TI := fun σ H R => ta σ H fun vs H1 => ∃ a l, vs = [.ref a, .ref l] ∧ (∃ xs, SqT K H1 a xs) ∧ (∃ ys, SqL K H1 l ys) ∧ R (Itz K a l) H1
theorem pi_zip {e1 e2 : Expr} {ta : TA} {p pos : Pos} (hg : Gl X "zip") (hm : X.mg "zip" = none) (ha : PA X [e1, e2] ta) (he : starEach [e1, e2] X.env = (false, eval e1 X.env) :: starEach [e2] X.env := by rfl) (hpl : (backTo pos (starEach [e2] X.env)).any (·.1) = false := by rfl) :
    PI X (.Tuple elts x1 tp) (.Call (.Name "zip" p) [e1, e2] [] pos) (iZip X.K ta) := by
  intro pins s σ H R I h
  refine Call_ (ld_blt I hg hm boot_zip (PyProof.Rows.callWith_type1 (thn (ha pos pins s σ H _ I h) fun us s1 ⟨vs, H1, I1, r1, q1⟩ => ?_) he hpl))
  obtain ⟨a, l, e, ⟨xs, hqa⟩, ⟨ys, hql⟩, q⟩ := q1
  subst e
  obtain ⟨u1, u2, rfl, r1a, r1b⟩ := vals2 r1
  cases r1a
  cases r1b
  obtain ⟨its, rv, p1, hz1⟩ := I1.tuple hqa
  obtain ⟨jts, rw', p2, hz2⟩ := I1.list hql
  refine callType_new F.called_zip (by decide) (F.typeCall_zip_2 _ _) (F.newCall_zip_2 _ _) (fun obj => F.args_object_init_3 obj _ _) F.entry_zip_new (new_zipT a l its.toArray jts.toArray) ⟨p1, p2.isList, ?_⟩
  have z1 : (zpH1 s1.heap a).objs.size = s1.heap.objs.size + 1 := Heap.size_push ..
  have z2 : (zpH2 s1.heap a l).objs.size = s1.heap.objs.size + 2 := by rw [Heap.size_push, z1]
  have z3 : (zpH3 s1.heap a l).objs.size = s1.heap.objs.size + 3 := by rw [Heap.size_push, z2]
  have z4 : (zpH4 s1.heap a l).objs.size = s1.heap.objs.size + 4 := by rw [Heap.size_push, z3]
  have g5 : (zpH5 s1.heap a l).get? (zpH4 s1.heap a l).objs.size = some _ := Heap.get?_push_size _ rfl
  have g4 : (zpH5 s1.heap a l).get? (zpH3 s1.heap a l).objs.size = some _ := Heap.get?_push_of_some _ (Heap.get?_push_size _ rfl)
  have g3 : (zpH5 s1.heap a l).get? (zpH2 s1.heap a l).objs.size = some _ := Heap.get?_push_of_some _ (Heap.get?_push_of_some _ (Heap.get?_push_size _ rfl))
  have g2 : (zpH5 s1.heap a l).get? (zpH1 s1.heap a).objs.size = some _ := Heap.get?_push_of_some _ (Heap.get?_push_of_some _ (Heap.get?_push_of_some _ (Heap.get?_push_size _ rfl)))
  have g1 : (zpH5 s1.heap a l).get? s1.heap.objs.size = some _ := Heap.get?_push_of_some _ (Heap.get?_push_of_some _ (Heap.get?_push_of_some _ (Heap.get?_push_of_some _ (Heap.get?_push_size _ rfl))))
  have kp : ∀ c o, s1.heap.get? c = some o → (zpH5 s1.heap a l).get? c = some o := fun c o x => Heap.get?_push_of_some _ (Heap.get?_push_of_some _ (Heap.get?_push_of_some _ (Heap.get?_push_of_some _ (Heap.get?_push_of_some _ x))))
  show _ ∧ _
  rw [z2, z3, z4] at g5
  rw [z1, z2] at g3
  rw [z3] at g4
  rw [z1] at g2
  rw [z4]
  refine ⟨⟨_, g5, rfl⟩, wpAny_pyIter_zip g5 ?_⟩
  have la : a < s1.heap.objs.size := by obtain ⟨o, e, _⟩ := p1; exact Heap.lt_size e
  have ll : l < s1.heap.objs.size := by obtain ⟨o, n, e, _⟩ := p2; exact Heap.lt_size e
  refine ⟨s1.heap.objs.size + 4, [s1.heap.objs.size + 4, s1.heap.objs.size + 2, s1.heap.objs.size + 3, s1.heap.objs.size, s1.heap.objs.size + 1], _, _, H1, rfl, I1.kept (t' := s1.toks) kp, turn_zip a l _ _ _ _ _ (zipD_new la ll), ⟨g5, g3, ⟨_, _, g4⟩, ⟨_, g1, rfl, rfl⟩, ⟨_, g2, rfl, rfl⟩⟩, fun b hb => ?_, q⟩
  have hb' : s1.heap.objs.size ≤ b := by
    have q : b = s1.heap.objs.size + 4 ∨ b = s1.heap.objs.size + 2 ∨ b = s1.heap.objs.size + 3 ∨ b = s1.heap.objs.size ∨ b = s1.heap.objs.size + 1 := by simpa using hb
    rcases q with q | q | q | q | q <;> rw [q] <;> first | exact Nat.le_refl _ | exact Nat.le_add_right _ _
  exact I1.fpOk hb' (I1.hok.fresh hb')
end
end L2
namespace L2
open PySem PySem.Spec PyProof.Rows
/-! ### d.setdefault(k, v); xs[lo:hi:step] -/
theorem vals_pick {xs : List V} {its : List Value} (r : Vals xs its) : ∀ (l : List Nat), Vals (l.filterMap (xs[·]?)) (l.filterMap (its[·]?))
  | [] => .nil
  | i :: l => by
    cases e : xs[i]? with
    | some x =>
      obtain ⟨u, hu, ru⟩ := r.get e
      rw [List.filterMap_cons_some e, List.filterMap_cons_some hu]
      exact .cons ru (vals_pick r l)
    | none =>
      have h : its[i]? = none := by
        have := List.getElem?_eq_none_iff.mp e
        rw [List.getElem?_eq_none_iff, ← r.length]
        exact this
      rw [List.filterMap_cons_none e, List.filterMap_cons_none h]
      exact vals_pick r l
section
variable {X : Cx} {e a b c : Expr} {te : TE} {ta tb tc : TO} {pos p2 : Pos}
noncomputable def tStep (K : PySem.W.Frag) (te : TE) (ta tb tc : TO) : TE := fun σ H Q => te σ H fun x H1 => ta σ H1 fun lo H2 => tb σ H2 fun hi H3 => tc σ H3 fun st H4 => ∃ l xs, x = .ref l ∧ st ≠ some 0 ∧ SqL K H4 l xs ∧ ∀ p ys, H4 p = none → (∀ y ∈ ys, y ∈ xs) → ys.length ≤ xs.length → Q (.ref p) (upd H4 p (.lst ys))
/-- a[lo:hi:step], a list -/
theorem pe_slice3 (he : PE X e te) (ha : PO X (some a) ta) (hb : PO X (some b) tb) (hc : PO X (some c) tc) : PE X (.Subscript e (.Slice (some a) (some b) (some c) p2) pos) (tStep X.K te ta tb tc) := by
  intro pins s σ H Q I h
  refine Subscript_ (thn (he pins s σ H _ I h) fun v s1 ⟨x, H1, I1, r1, q1⟩ => ?_)
  refine wpAny_Slice (thn (ha pins s1 σ H1 _ I1 q1) fun vl s2 ⟨lo, H2, I2, pl, q2⟩ => thn (hb pins s2 σ H2 _ I2 q2) fun vu s3 ⟨hi, H3, I3, pu, q3⟩ => thn (hc pins s3 σ H3 _ I3 q3) fun vk s4 ⟨st, H4, I4, pk, q4⟩ => ?_)
  obtain ⟨l, xs, rfl, h0, hx, q⟩ := q4
  cases r1
  have I5 : Inv X pins σ H4 { s4 with heap := s4.heap.push { cls := .type "slice", data := .fields #[vl, vu, vk] } } := I4.kept (t' := s4.toks) fun b ob q => Heap.get?_push_of_some _ q
  obtain ⟨its, r, ht, hz⟩ := I5.list hx
  have hlen := r.length
  have hg : wpAny (model X.prog X.w) X.A (getItem (.ref l) (.ref s4.heap.objs.size)) (EP X pins σ Q) X.xe { s4 with heap := s4.heap.push { cls := .type "slice", data := .fields #[vl, vu, vk] } } := by
    refine wpAny_getItem_list_slice ht.isList (Heap.IsSliceOf.new ..) pl pu pk h0 ?_ (by rw [List.size_toArray] <;> omega)
    have sz := slicePick_size_le its.toArray lo hi st
    unfold slicePick at sz ⊢
    have e : (fun i : Nat => its.toArray[i]?) = fun i => its[i]? := by funext i; simp
    generalize sliceRange (sliceBounds lo hi st its.toArray.size).1 (sliceBounds lo hi st its.toArray.size).2.1 (sliceBounds lo hi st its.toArray.size).2.2 = ix at sz ⊢
    rw [e] at sz ⊢
    have rp := vals_pick r ix
    have lp : (ix.filterMap (xs[·]?)).length ≤ xs.length := by
      rw [rp.length, hlen]
      simpa using sz
    refine ⟨.ref _, _, I5.laid (t' := s4.toks) (o := .lst (ix.filterMap (xs[·]?))) (fun b ob q => Heap.get?_push_of_some _ q) (Nat.le_refl _) ?_, rfl, q _ _ (I5.hok.fresh (Nat.le_refl _)) (fun y hy => ?_) lp⟩
    · exact ⟨by omega, _, 0, rp, Heap.get?_push_size _ rfl⟩
    · obtain ⟨i, _, e⟩ := List.mem_filterMap.mp hy
      exact List.mem_of_getElem? e
  show wpAny (model X.prog X.w) X.A (subscriptTail e (.Slice (some a) (some b) (some c) p2) (.ref l) (.ref s4.heap.objs.size)) (EP X pins σ Q) X.xe { s4 with heap := s4.heap.push { cls := .type "slice", data := .fields #[vl, vu, vk] } }
  exact tail_any (ops := [.ref l, .ref s4.heap.objs.size]) ht.isList.typeIs slot_list_getitem.lookup hg (by with_unfolding_all rfl)
/-- d.setdefault(k, v) -/
noncomputable def rDflt : V → List V → Hp → VK → Prop := fun x vs H Q => ∃ d kvs k v, x = .ref d ∧ vs = [kV k, v] ∧ H d = some (.dK kvs) ∧ kvs.length < 1000 ∧ (∀ u, valV kvs k = some u → Q u H) ∧ (valV kvs k = none → Q v (upd H d (.dK (putK kvs k v))))
theorem mt_setdefault : MtM X "dict.setdefault" rDflt := by
  intro pins s σ H x vs v us Q I rx rv h
  obtain ⟨d, kvs, k, y, rfl, rfl, hd, hz, q1, q2⟩ := h
  cases rx
  obtain ⟨u1, u2, rfl, r1, r2⟩ := vals2 rv
  obtain ⟨z1, sd, ws, rel, D1⟩ := dk_of I.hok hd
  have l1 := rel.length
  have sl : (1000 : Nat) ≤ sizeLine := by decide
  refine call_meetsIn F.slot_dict_setdefault D1.typeIs F.entry_dict_setdefault (F.args_dict_setdefault_3 _ _ _) (kt_meets_setdefault (mixKind X.prog X.w) d (kV_is r1) sd u2) ⟨ws, D1, by omega, fun w' hw => ?_, fun hn h' hD' hs => ?_⟩
  · obtain ⟨u, hu, ru⟩ : ∃ u, valV kvs k = some u ∧ RelV u w' := by
      have := rel.val k
      rw [hw] at this
      cases e : valV kvs k with
      | none => rw [e] at this; exact this.elim
      | some u => rw [e] at this; exact ⟨u, rfl, this⟩
    exact ⟨u, H, I.tok _, ru, q1 u hu⟩
  · have hn' : valV kvs k = none := by
      have := rel.val k
      rw [hn] at this
      cases e : valV kvs k with
      | none => rfl
      | some u => rw [e] at this; exact this.elim
    have hl : (putK kvs k y).length ≤ sizeLine := by have := length_putK kvs k y; omega
    exact ⟨y, _, d_write I (by rw [hd]; exact True.intro) hs (let ⟨q, _, _, hq, _⟩ := hD'; ⟨q, hq⟩) (dk_new hl sd (rel.put k r2) hD'), r2, q2 hn'⟩
end
end L2
namespace L2
open PySem PySem.Spec PyProof.Rows
/-! ### fractions as rationals -/
noncomputable def qF (f : Int × Int) : Rat := (f.1 : Rat) / (f.2 : Rat)
theorem cast_ne {b : Int} (h : 0 < b) : (b : Rat) ≠ 0 := fun z => by
  have : b = 0 := Rat.intCast_inj.mp z
  omega
theorem cast_pos {b : Int} (h : 0 < b) : (0 : Rat) < (b : Rat) := Rat.intCast_lt_intCast.mpr h
theorem q_eq {f g : Int × Int} (hf : 0 < f.2) (hg : 0 < g.2) : qF f = qF g ↔ f.1 * g.2 = g.1 * f.2 := by
  have a := cast_ne hf
  have b := cast_ne hg
  unfold qF
  constructor
  · intro e
    apply Rat.intCast_inj.mp
    rw [Rat.intCast_mul, Rat.intCast_mul]
    grind
  · intro e
    have : (f.1 : Rat) * (g.2 : Rat) = (g.1 : Rat) * (f.2 : Rat) := by rw [← Rat.intCast_mul, ← Rat.intCast_mul, e]
    grind
theorem q_frOf {t b : Int} (h : 0 < b) : qF (frOf t b) = (t : Rat) / (b : Rat) := by
  have := (q_eq (f := frOf t b) (g := (t, b)) (frOf_ok t h).pos h).mpr (by
    show frT t b * b = t * frB t b
    rw [fr_cross, Int.mul_comm])
  exact this
theorem q_ok {f g : Int × Int} (hf : FrOk f) (hg : FrOk g) (e : qF f = qF g) : f = g := by
  have := (q_eq hf.pos hg.pos).mp e
  have u := cop_uniq hf.cop hg.cop hf.pos hg.pos (by rw [this, Int.mul_comm])
  exact Prod.ext u.1 u.2
theorem q_lt {f g : Int × Int} (hf : 0 < f.2) (hg : 0 < g.2) : qF f < qF g ↔ ltF f g := by
  unfold qF ltF
  rw [Rat.div_lt_iff (cast_pos hf)]
  have e : (g.1 : Rat) / (g.2 : Rat) * (f.2 : Rat) = ((g.1 : Rat) * (f.2 : Rat)) / (g.2 : Rat) := by
    have := cast_ne hg
    grind
  rw [e, Rat.lt_div_iff (cast_pos hg), ← Rat.intCast_mul, ← Rat.intCast_mul, Rat.intCast_lt_intCast]
theorem q_zero : qF (0, 1) = 0 := by
  unfold qF
  have : (0 : Rat) / 1 = 0 := by grind
  exact this
theorem q_one : qF (1, 1) = 1 := by
  unfold qF
  have : (1 : Rat) / 1 = 1 := by grind
  exact this
theorem q_plus {f g : Int × Int} (hf : 0 < f.2) (hg : 0 < g.2) : qF (plusF f g) = qF f + qF g := by
  have a := cast_ne hf
  have b := cast_ne hg
  have e : qF (plusF f g) = _ := q_frOf (t := f.1 * g.2 + g.1 * f.2) (Int.mul_pos hf hg)
  rw [e, Rat.intCast_add, Rat.intCast_mul, Rat.intCast_mul, Rat.intCast_mul]
  unfold qF
  grind
theorem q_minus {f g : Int × Int} (hf : 0 < f.2) (hg : 0 < g.2) : qF (minusF f g) = qF f - qF g := by
  have a := cast_ne hf
  have b := cast_ne hg
  have e : qF (minusF f g) = _ := q_frOf (t := f.1 * g.2 - g.1 * f.2) (Int.mul_pos hf hg)
  rw [e, Rat.intCast_sub, Rat.intCast_mul, Rat.intCast_mul, Rat.intCast_mul]
  unfold qF
  grind
theorem q_prod {f g : Int × Int} (hf : 0 < f.2) (hg : 0 < g.2) : qF (prodF f g) = qF f * qF g := by
  have a := cast_ne hf
  have b := cast_ne hg
  have e : qF (prodF f g) = _ := q_frOf (t := f.1 * g.1) (Int.mul_pos hf hg)
  rw [e, Rat.intCast_mul, Rat.intCast_mul]
  unfold qF
  grind
theorem q_pos {f : Int × Int} (hf : 0 < f.2) : 0 < qF f ↔ 0 < f.1 := by
  have := q_lt (f := (0, 1)) (g := f) (by decide) hf
  rw [q_zero] at this
  rw [this]
  unfold ltF
  omega
theorem q_nn {f : Int × Int} (hf : 0 < f.2) (h : 0 ≤ f.1) : 0 ≤ qF f := by
  rcases Int.lt_or_eq_of_le h with z | z
  · exact Rat.le_of_lt ((q_pos hf).mpr z)
  · unfold qF
    rw [← z]
    have : ((0 : Int) : Rat) / (f.2 : Rat) = 0 := by
      have : ((0 : Int) : Rat) = 0 := rfl
      grind
    rw [this]
    exact Rat.le_refl
theorem q_sum : ∀ {l : List (Int × Int)} {a : Int × Int}, FrOk a → (∀ f ∈ l, FrOk f) → qF (l.foldl plusF a) = qF a + (l.map qF).sum ∧ FrOk (l.foldl plusF a)
  | [], a, ha, _ => ⟨by show qF a = qF a + 0; grind, ha⟩
  | f :: l, a, ha, h => by
    have hf := h f (List.mem_cons_self ..)
    have ih := q_sum (l := l) (plusF_ok ha.pos hf.pos) (fun g hg => h g (List.mem_cons_of_mem _ hg))
    refine ⟨?_, ih.2⟩
    rw [List.foldl_cons, ih.1, q_plus ha.pos hf.pos, List.map_cons, List.sum_cons]
    grind
theorem q_sumF {l : List (Int × Int)} (h : ∀ f ∈ l, FrOk f) : qF (sumF l) = (l.map qF).sum ∧ FrOk (sumF l) := by
  have := q_sum (l := l) nought_ok h
  refine ⟨?_, this.2⟩
  have e := this.1
  rw [q_zero] at e
  unfold sumF
  rw [e]
  grind
/-! ### what shares come to -/
noncomputable def qS (S : Sh) (x : Str) : Rat := qF (shAt S x)
noncomputable def totS (S : Sh) : Rat := (S.map fun p => qF p.2).sum
theorem totS_nil : totS [] = 0 := rfl
theorem totS_cons (p : Str × Int × Int) (S : Sh) : totS (p :: S) = qF p.2 + totS S := by unfold totS; rw [List.map_cons, List.sum_cons]
theorem totS_app (S T : Sh) : totS (S ++ T) = totS S + totS T := by
  induction S with
  | nil => rw [List.nil_append, totS_nil]; grind
  | cons p S ih => rw [List.cons_append, totS_cons, totS_cons, ih]; grind
theorem totS_sumF {S : Sh} (h : ∀ p ∈ S, FrOk p.2) : qF (sumF (S.map (·.2))) = totS S := by
  have := (q_sumF (l := S.map (·.2)) fun f hf => by
    obtain ⟨p, hp, rfl⟩ := List.mem_map.mp hf
    exact h p hp).1
  rw [this, List.map_map]
  rfl
theorem totS_perm {S T : Sh} (h : S.Perm T) : totS S = totS T := by
  induction h with
  | nil => rfl
  | cons p _ ih => rw [totS_cons, totS_cons, ih]
  | swap p q l => rw [totS_cons, totS_cons, totS_cons, totS_cons]; grind
  | trans _ _ a b => exact a.trans b
theorem totS_set {S : Sh} (nd : (S.map (·.1)).Nodup) {x : Str} (f : Int × Int) (h : x ∈ S.map (·.1)) : totS (S.map fun p => if p.1 = x then (p.1, f) else p) = totS S - qS S x + qF f := by
  induction S with
  | nil => simp at h
  | cons p S ih =>
    rw [List.map_cons, List.nodup_cons] at nd
    rw [List.map_cons, totS_cons, totS_cons]
    by_cases e : p.1 = x
    · have e1 : shAt (p :: S) x = p.2 := by unfold shAt; rw [List.find?_cons, decide_eq_true e]; rfl
      have e2 : (S.map fun p => if p.1 = x then (p.1, f) else p) = S := by
        rw [← List.map_id S, List.map_map]
        refine List.map_congr_left fun q hq => ?_
        have : q.1 ≠ x := fun z => nd.1 (by rw [e, ← z]; exact List.mem_map_of_mem hq)
        simp [this]
      rw [if_pos e, e2]
      unfold qS
      rw [e1]
      grind
    · have e1 : shAt (p :: S) x = shAt S x := by unfold shAt; rw [List.find?_cons, decide_eq_false e]
      rw [List.map_cons] at h
      have hx : x ∈ S.map (·.1) := (List.mem_cons.mp h).resolve_left fun z => e z.symm
      rw [if_neg e, ih nd.2 hx]
      unfold qS
      rw [e1]
      grind
theorem any_names {S : Sh} {x : Str} : (S.any fun p => decide (p.1 = x)) = true ↔ x ∈ S.map (·.1) := by
  rw [List.any_eq_true, List.mem_map]
  constructor
  · rintro ⟨p, hp, e⟩; exact ⟨p, hp, of_decide_eq_true e⟩
  · rintro ⟨p, hp, e⟩; exact ⟨p, hp, decide_eq_true e⟩
theorem totS_put {S : Sh} (nd : (S.map (·.1)).Nodup) (x : Str) (f : Int × Int) : totS (putS S x f) = totS S - qS S x + qF f := by
  unfold putS
  by_cases h : x ∈ S.map (·.1)
  · rw [if_pos (any_names.mpr h), totS_set nd f h]
  · rw [if_neg (fun z => h (any_names.mp z)), totS_app, totS_cons, totS_nil]
    unfold qS
    rw [shAt_out h, q_zero]
    grind
/-- what is told comes to the same -/
theorem tot_names {S : Sh} (nd : (S.map (·.1)).Nodup) : S = (S.map (·.1)).map fun x => (x, shAt S x) := by
  rw [List.map_map]
  conv => lhs; rw [← List.map_id S]
  refine List.map_congr_left fun p hp => ?_
  have e := shAt_mem (List.mem_map_of_mem (f := (·.1)) hp)
  have : p.2 = shAt S p.1 := by
    clear e
    induction S with
    | nil => cases hp
    | cons q S ih =>
      rw [List.map_cons, List.nodup_cons] at nd
      unfold shAt
      rw [List.find?_cons]
      rcases List.mem_cons.mp hp with z | z
      · subst z; rw [decide_eq_true rfl]; rfl
      · have : q.1 ≠ p.1 := fun w => nd.1 (by rw [w]; exact List.mem_map_of_mem z)
        rw [decide_eq_false this]
        exact ih nd.2 z
  exact Prod.ext rfl this
theorem totS_filter (S : Sh) : totS (S.filter fun p => decide (p.2 ≠ (0, 1))) = totS S := by
  induction S with
  | nil => rfl
  | cons p S ih =>
    by_cases e : p.2 = (0, 1)
    · rw [List.filter_cons_of_neg (by simp [e]), totS_cons, e, q_zero, ih]; grind
    · rw [List.filter_cons_of_pos (by simpa using e), totS_cons, totS_cons, ih]
theorem totS_told {S : Sh} {ss : List Str} (nd : (S.map (·.1)).Nodup) (pm : ss.Perm (S.map (·.1))) : totS (toldS S ss) = totS S := by
  unfold toldS
  rw [totS_filter]
  have := totS_perm (pm.map fun x => (x, shAt S x))
  rw [this, ← tot_names nd]
theorem totS_low : ∀ (L acc : Sh), (acc.map (·.1)).Nodup → (∀ x, 0 < (shAt acc x).2) → (∀ p ∈ L, 0 < p.2.2) → totS (lowAll acc L) = totS acc - totS L
  | [], acc, _, _, _ => by show totS acc = _; rw [totS_nil]; grind
  | p :: L, acc, nd, ap, hp => by
    have hp0 := hp p (List.mem_cons_self ..)
    have ih := totS_low L (putS acc p.1 (minusF (shAt acc p.1) p.2)) (putS_nodup nd ..) (fun x => by
      rw [shAt_put]
      split
      · exact (minusF_ok (ap _) hp0).pos
      · exact ap x) fun q hq => hp q (List.mem_cons_of_mem _ hq)
    show totS (lowAll (putS acc p.1 (minusF (shAt acc p.1) p.2)) L) = _
    rw [ih, totS_put nd, q_minus (ap _) hp0, totS_cons]
    unfold qS
    grind
theorem totS_mixOne {w : Int × Int} (hw : 0 < w.2) : ∀ (S acc : Sh), (acc.map (·.1)).Nodup → (∀ x, FrOk (shAt acc x)) → (∀ p ∈ S, 0 < p.2.2) → totS (mixOne w acc S) = totS acc + qF w * totS S
  | [], acc, _, _, _ => by show totS acc = _; rw [totS_nil]; grind
  | p :: S, acc, nd, ap, hp => by
    have hp0 := hp p (List.mem_cons_self ..)
    have pp := (prodF_ok hw hp0).pos
    have ih := totS_mixOne hw S (putS acc p.1 (plusF (shAt acc p.1) (prodF w p.2))) (putS_nodup nd ..) (fun x => by
      rw [shAt_put]
      split
      · exact plusF_ok (ap _).pos pp
      · exact ap x) fun q hq => hp q (List.mem_cons_of_mem _ hq)
    show totS (mixOne w (putS acc p.1 (plusF (shAt acc p.1) (prodF w p.2))) S) = _
    rw [ih, totS_put nd, q_plus (ap _).pos pp, q_prod hw hp0, totS_cons]
    unfold qS
    grind
theorem mixOne_ok {w : Int × Int} (hw : 0 < w.2) : ∀ (S acc : Sh), (∀ x, FrOk (shAt acc x)) → (∀ p ∈ S, 0 < p.2.2) → ∀ x, FrOk (shAt (mixOne w acc S) x)
  | [], acc, ap, _ => ap
  | p :: S, acc, ap, hp => by
    have hp0 := hp p (List.mem_cons_self ..)
    have pp := (prodF_ok hw hp0).pos
    exact mixOne_ok hw S (putS acc p.1 (plusF (shAt acc p.1) (prodF w p.2))) (fun x => by
      rw [shAt_put]
      split
      · exact plusF_ok (ap _).pos pp
      · exact ap x) fun q hq => hp q (List.mem_cons_of_mem _ hq)
theorem totS_mix {A B : Sh} {m n : Int} (hA : ShOk A) (hB : ShOk B) (hm : 0 < m) (hn : 0 < n) (tA : totS A = 1) (tB : totS B = 1) : totS (mixS A m n B) = 1 := by
  have mn : 0 < m + n := by omega
  have w1 : 0 < (frOf m (m + n)).2 := (frOf_ok m mn).pos
  have w2 : 0 < (frOf n (m + n)).2 := (frOf_ok n mn).pos
  have n0 : ∀ x, FrOk (shAt [] x) := fun x => nought_ok
  have pA : ∀ p ∈ A, 0 < p.2.2 := fun p hp => (hA.ok p hp).1.pos
  have pB : ∀ p ∈ B, 0 < p.2.2 := fun p hp => (hB.ok p hp).1.pos
  unfold mixS
  rw [totS_mixOne w2 B _ (mixOne_nodup A [] List.nodup_nil) (mixOne_ok w1 A [] n0 pA) pB, totS_mixOne w1 A [] List.nodup_nil n0 pA, tA, tB, totS_nil, q_frOf mn, q_frOf mn]
  have e := cast_ne mn
  rw [Rat.intCast_add] at e ⊢
  grind
end L2
namespace L2
open PySem PySem.Spec PyProof.Rows
/-! ### a part pressed out of shares that come to one, with bottoms up to 10 ** 60 -/
structure PrO (D : Int) (S : Sh) (g k : Str) (f : Int × Int) : Prop where
  ok : ShOk S
  nz : NZ S
  pf : ∀ p ∈ S, PF p.2.2 p.2 ∧ Bd 247 p.2.1 ∧ Bd 247 p.2.2
  ot : OthOk D (othS S g k)
  d0 : 0 < D
  bd : Bd 1210 D
  len : S.length ≤ 20
  fok : FrOk f
  f0 : 0 < f.1
  b1 : Bd 600 f.1
  b2 : Bd 600 f.2
section
variable {D : Int} {S : Sh} {g k : Str} {f : Int × Int}
theorem PrO.at (h : PrO D S g k f) (x : Str) : PF (shAt S x).2 (shAt S x) ∧ Bd 247 (shAt S x).1 ∧ Bd 247 (shAt S x).2 := by
  by_cases z : x ∈ S.map (·.1)
  · exact h.pf _ (shAt_mem z)
  · rw [shAt_out z]
    exact ⟨⟨nought_ok, by decide, by decide, Int.one_dvd _⟩, Bd.mono (m := 2) (Bd.of (by decide)) (by decide), Bd.mono (m := 2) (Bd.of (by decide)) (by decide)⟩
theorem PrO.gv (h : PrO D S g k f) : FrOk (gvn S g f) ∧ 0 ≤ (gvn S g f).1 ∧ Bd 600 (gvn S g f).1 ∧ Bd 600 (gvn S g f).2 ∧ ¬ ltF (shAt S g) (gvn S g f) ∧ ¬ ltF f (gvn S g f) := by
  have a := h.at g
  unfold gvn
  rcases less_cases f (shAt S g) with ⟨e, n⟩ | ⟨e, n⟩
  · rw [e]; exact ⟨h.fok, Int.le_of_lt h.f0, h.b1, h.b2, n, by unfold ltF; omega⟩
  · rw [e]; exact ⟨a.1.ok, a.1.nn, a.2.1.mono (by decide), a.2.2.mono (by decide), by unfold ltF; omega, by unfold ltF at n ⊢; omega⟩
theorem PrO.lk (h : PrO D S g k f) : FrOk (lck S g f) ∧ 0 ≤ (lck S g f).1 ∧ Bd 900 (lck S g f).1 ∧ Bd 900 (lck S g f).2 := by
  have a := h.at g
  have v := h.gv
  refine ⟨minusF_ok h.fok.pos v.1.pos, minus_nn h.fok.pos v.1.pos v.2.2.2.2.2, ?_⟩
  unfold lck gvn
  rcases less_cases f (shAt S g) with ⟨e, n⟩ | ⟨e, n⟩
  · rw [e, minus_self h.fok.pos]
    exact ⟨Bd.mono (m := 2) (Bd.of (by decide)) (by decide), Bd.mono (m := 2) (Bd.of (by decide)) (by decide)⟩
  · rw [e]
    have := bd_minus h.b1 h.b2 a.2.1 a.2.2
    exact ⟨this.1.mono (by decide), this.2.mono (by decide)⟩
theorem lost_dataO (h : PrO D S g k f) : ((lost S g k f).map (·.1)).Nodup ∧ (∀ x, x ∈ (lost S g k f).map (·.1) → x ∈ (othS S g k).map (·.1)) ∧ (lost S g k f).length ≤ 20 ∧ ∃ E : Int, 0 < E ∧ Bd 3900 E ∧ ∀ p ∈ lost S g k f, PF E p.2 := by
  have o := h.ot
  have l := h.lk
  have r := rest_ok o h.d0 l.1 l.2.1
  have ol := othS_len S g k
  have hl := h.len
  have s := o.hold h.d0
  have lm : ((othS S g k).map (·.2)).length = (othS S g k).length := List.length_map ..
  have sb := s.bd h.d0 h.bd (by omega) (by omega)
  by_cases r0 : 0 < (lessF (lck S g f) (sumF ((othS S g k).map (·.2)))).1
  · have nm := lossL_names o h.d0 l.1 l.2.1 r0
    have e := lossL_pos o h.d0 l.1 l.2.1 r0
    have hz : ¬ sumF ((othS S g k).map (·.2)) = (0, 1) := fun z => by
      have le := r.2.2
      rw [z] at le r0
      unfold ltF at le
      apply le
      show 0 * _ < _ * 1
      omega
    have h0 := hold_pos o h.d0 hz
    have bR : Bd 1217 (lessF (lck S g f) (sumF ((othS S g k).map (·.2)))).1 ∧ Bd 1217 (lessF (lck S g f) (sumF ((othS S g k).map (·.2)))).2 := by
      rcases less_cases (lck S g f) (sumF ((othS S g k).map (·.2))) with ⟨e, _⟩ | ⟨e, _⟩
      · rw [e]; exact ⟨l.2.2.1.mono (by decide), l.2.2.2.mono (by decide)⟩
      · rw [e]; exact ⟨sb.1.mono (by decide), sb.2.mono (by decide)⟩
    refine ⟨by unfold lost; rw [nm]; exact o.nd, fun x hx => by unfold lost at hx; rw [nm] at hx; exact hx, by unfold lost; rw [e, List.length_map]; omega, D * (quotF (lessF (lck S g f) (sumF ((othS S g k).map (·.2)))) (sumF ((othS S g k).map (·.2)))).2, Int.mul_pos h.d0 (quot_ok r.1.pos h0).pos, ?_, fun p hp => ?_⟩
    · exact (h.bd.mul (Bd.frB (bR.2.mul sb.1))).mono (by decide)
    · unfold lost at hp
      rw [e] at hp
      obtain ⟨q, hq, rfl⟩ := List.mem_map.mp hp
      exact loss_pf (o.pf q hq) r.1 r.2.1 s.ok.pos h0 r.2.2
  · have e := lossL_zero o h.d0 l.1 l.2.1 r0
    have e' : lost S g k f = [] := e
    rw [e']
    exact ⟨by simp, fun x hx => by simp at hx, by simp, 1, by decide, Bd.mono (m := 2) (Bd.of (by decide)) (by decide), fun p hp => nomatch hp⟩
theorem lost_sumO (h : PrO D S g k f) : sumF ((lost S g k f).map (·.2)) = rst S g k f := lossL_sum (h.ot) h.d0 (h.lk).1 (h.lk).2.1
theorem prsA_atO (h : PrO D S g k f) (x : Str) : shAt (prsA S g k f) x = if x ∈ (lost S g k f).map (·.1) then minusF (shAt (putS S g (minusF (shAt S g) (gvn S g f))) x) (shAt (lost S g k f) x) else shAt (putS S g (minusF (shAt S g) (gvn S g f))) x := lowAll_at _ _ x (lost_dataO h).1
theorem prsT_atO (h : PrO D S g k f) (hgk : g ≠ k) (x : Str) : shAt (prsT S g k f) x = prsV S g k f x := by
  have o := h.ot
  have l := h.lk
  unfold prsT prsV
  rw [shAt_put, lost_sumO h]
  by_cases e1 : x = k
  · rw [if_pos e1, if_pos e1, prsA_atO h, if_neg (fun z => ((othS_mem ((lost_dataO h).2.1 _ z)).2.2 rfl)), shAt_put, if_neg (Ne.symm hgk)]
  · rw [if_neg e1, if_neg e1, prsA_atO h]
    by_cases e2 : x = g
    · rw [if_pos e2, if_neg (fun z => (othS_mem ((lost_dataO h).2.1 _ z)).2.1 e2), shAt_put, if_pos e2]
    · rw [if_neg e2, shAt_put, if_neg e2]
      by_cases r0 : 0 < (rst S g k f).1
      · have nm : (lost S g k f).map (·.1) = (othS S g k).map (·.1) := lossL_names o h.d0 l.1 l.2.1 r0
        have e := lossL_pos o h.d0 l.1 l.2.1 r0
        rw [nm]
        by_cases e3 : x ∈ (othS S g k).map (·.1)
        · rw [if_pos e3, if_pos ⟨e3, r0⟩]
          congr 1
          obtain ⟨p, hp, rfl⟩ := List.mem_map.mp e3
          have m : (p.1, lossF p.2 (rst S g k f) (sumF ((othS S g k).map (·.2)))) ∈ lost S g k f := by
            unfold lost
            rw [e]
            exact List.mem_map.mpr ⟨p, hp, rfl⟩
          have a1 := shAt_of_mem (lost_dataO h).1 m
          rw [a1, shAt_of_mem h.ok.nd (List.mem_filter.mp hp).1]
        · rw [if_neg e3, if_neg (fun z => e3 z.1)]
      · have e : lost S g k f = [] := lossL_zero o h.d0 l.1 l.2.1 r0
        rw [e, if_neg (by simp), if_neg (fun z => r0 z.2)]
theorem prsT_namesO (h : PrO D S g k f) (x : Str) : x ∈ (prsT S g k f).map (·.1) ↔ InP S g k x := by
  unfold prsT prsA InP
  rw [putS_mem_iff, lowAll_names, putS_mem_iff]
  constructor
  · rintro (((a | a) | a) | a)
    · exact .inl a
    · exact .inr (.inl a)
    · exact .inl (othS_mem ((lost_dataO h).2.1 _ a)).1
    · exact .inr (.inr a)
  · rintro (a | a | a)
    · exact .inl (.inl (.inl a))
    · exact .inl (.inl (.inr a))
    · exact .inr a
theorem prsT_nodupO (h : PrO D S g k f) : ((prsT S g k f).map (·.1)).Nodup := putS_nodup (lowAll_nodup _ _ (putS_nodup h.ok.nd ..)) ..
theorem prsV_okO (h : PrO D S g k f) (x : Str) : FrOk (prsV S g k f x) ∧ 0 ≤ (prsV S g k f x).1 := by
  have o := h.ot
  have l := h.lk
  have v := h.gv
  have r := rest_ok o h.d0 l.1 l.2.1
  have a := h.at x
  unfold prsV
  split
  · have ak := h.at k
    have pk := plusF_ok v.1.pos r.1.pos
    exact ⟨plusF_ok ak.1.ok.pos pk.pos, plus_nn ak.1.ok.pos pk.pos ak.1.nn (plus_nn v.1.pos r.1.pos v.2.1 r.2.1)⟩
  · split
    · have ag := h.at g
      exact ⟨minusF_ok ag.1.ok.pos v.1.pos, minus_nn ag.1.ok.pos v.1.pos v.2.2.2.2.1⟩
    · split
      · rename_i c
        have hz : ¬ sumF ((othS S g k).map (·.2)) = (0, 1) := fun z => by
          have le := r.2.2
          have r0 := c.2
          unfold rst at r0
          rw [z] at le r0
          unfold ltF at le
          apply le
          show 0 * _ < _ * 1
          omega
        have h0 := hold_pos o h.d0 hz
        have le := loss_le a.1.ok a.1.nn r.1.pos h0 r.2.2
        have lp := (prodF_ok a.1.ok.pos (quot_ok r.1.pos h0).pos).pos
        exact ⟨minusF_ok a.1.ok.pos lp, minus_nn a.1.ok.pos lp (by
          show ¬ (shAt S x).1 * (lossF (shAt S x) (rst S g k f) (sumF ((othS S g k).map (·.2)))).2 < (lossF (shAt S x) (rst S g k f) (sumF ((othS S g k).map (·.2)))).1 * (shAt S x).2
          unfold rst
          omega)⟩
      · exact ⟨a.1.ok, a.1.nn⟩
theorem prsT_okO (h : PrO D S g k f) (hgk : g ≠ k) : ShOk (prsT S g k f) := by
  refine ⟨prsT_nodupO h, fun p hp => ?_⟩
  have e := shAt_of_mem (prsT_nodupO (g := g) (k := k) h) hp
  rw [prsT_atO h hgk] at e
  rw [← e]
  exact prsV_okO h p.1
theorem totS_prs (h : PrO D S g k f) : totS (prsT S g k f) = totS S := by
  have v := h.gv
  have ld := lost_dataO h
  obtain ⟨nd, sub, ll, E, e0, bE, pE⟩ := ld
  have lp : ∀ p ∈ lost S g k f, 0 < p.2.2 := fun p hp => (pE p hp).ok.pos
  have ap : ∀ x, 0 < (shAt (putS S g (minusF (shAt S g) (gvn S g f))) x).2 := fun x => by
    rw [shAt_put]
    split
    · exact (minusF_ok (h.at g).1.ok.pos v.1.pos).pos
    · exact (h.at x).1.ok.pos
  have nA : ((prsA S g k f).map (·.1)).Nodup := lowAll_nodup _ _ (putS_nodup h.ok.nd ..)
  have sm := totS_sumF (S := lost S g k f) fun p hp => (pE p hp).ok
  have so : FrOk (sumF ((lost S g k f).map (·.2))) := (q_sumF fun z hz => by
    obtain ⟨p, hp, rfl⟩ := List.mem_map.mp hz
    exact (pE p hp).ok).2
  have pk := plusF_ok v.1.pos so.pos
  have kk : 0 < (shAt (prsA S g k f) k).2 := by
    rw [prsA_atO h]
    split
    · rename_i c
      exact (minusF_ok (ap _) (lp _ (shAt_mem c))).pos
    · exact ap _
  unfold prsT
  rw [totS_put nA]
  unfold prsA qS at *
  rw [totS_low _ _ (putS_nodup h.ok.nd ..) ap lp, totS_put h.ok.nd, q_plus kk pk.pos, q_plus v.1.pos so.pos, sm, q_minus (h.at g).1.ok.pos v.1.pos]
  unfold qS
  grind
end
/-! ### good shares -/
structure GS (ss : List Str) (S : Sh) : Prop where
  nd : (S.map (·.1)).Nodup
  so : sortedS (S.map (·.1)) = true
  ok : ∀ p ∈ S, FrOk p.2 ∧ 0 < p.2.1
  fin : ∀ p ∈ S, ¬ FIN < p.2.2
  tot : totS S = 1
  nm : ∀ p ∈ S, p.1 ∈ ss
theorem nd_le : ∀ {l m : List Str}, l.Nodup → (∀ x ∈ l, x ∈ m) → l.length ≤ m.length
  | [], m, _, _ => Nat.zero_le _
  | x :: l, m, nd, h => by
    rw [List.nodup_cons] at nd
    have hx := h x (List.mem_cons_self ..)
    have ih := nd_le (l := l) (m := m.erase x) nd.2 fun y hy => (List.mem_erase_of_ne (fun z : y = x => nd.1 (by rw [← z]; exact hy))).mpr (h y (List.mem_cons_of_mem _ hy))
    have := List.length_erase_of_mem hx
    have : 0 < m.length := List.length_pos_of_mem hx
    rw [List.length_cons]
    omega
theorem tot_nn : ∀ {S : Sh}, (∀ p ∈ S, 0 ≤ qF p.2) → 0 ≤ totS S
  | [], _ => by rw [totS_nil]; exact Rat.le_refl
  | p :: S, h => by
    rw [totS_cons]
    have a := h p (List.mem_cons_self ..)
    have b := tot_nn fun q hq => h q (List.mem_cons_of_mem _ hq)
    grind
theorem tot_le : ∀ {S : Sh}, (∀ p ∈ S, 0 ≤ qF p.2) → ∀ p ∈ S, qF p.2 ≤ totS S
  | q :: S, h, p, hp => by
    rw [totS_cons]
    have a := h q (List.mem_cons_self ..)
    have b := tot_nn fun r hr => h r (List.mem_cons_of_mem _ hr)
    rcases List.mem_cons.mp hp with e | e
    · subst e; grind
    · have := tot_le (fun r hr => h r (List.mem_cons_of_mem _ hr)) p e
      grind
theorem pw_rising : ∀ (l : List Str) (p : Str), (p :: l).Pairwise leS → risingS p l = true
  | [], p, _ => rfl
  | q :: l, p, h => by
    rw [List.pairwise_cons] at h
    have ih := pw_rising l q h.2
    have e := h.1 q (List.mem_cons_self ..)
    unfold leS at e
    unfold risingS
    simp [e, ih]
theorem pw_sorted {l : List Str} (h : l.Pairwise leS) : sortedS l = true := by
  cases l with
  | nil => rfl
  | cons p l => exact pw_rising l p h
noncomputable def bots (S : Sh) : Int := (S.map fun p => p.2.2).foldr (· * ·) 1
theorem bots_pos : ∀ {S : Sh}, (∀ p ∈ S, 0 < p.2.2) → 0 < bots S
  | [], _ => by show (0 : Int) < 1; decide
  | p :: S, h => Int.mul_pos (h p (List.mem_cons_self ..)) (bots_pos fun q hq => h q (List.mem_cons_of_mem _ hq))
theorem bots_dvd : ∀ {S : Sh}, ∀ p ∈ S, p.2.2 ∣ bots S
  | q :: S, p, hp => by
    show p.2.2 ∣ q.2.2 * bots S
    rcases List.mem_cons.mp hp with e | e
    · subst e; exact Int.dvd_mul_right _ _
    · exact Int.dvd_trans (bots_dvd p e) (Int.dvd_mul_left _ _)
theorem bots_bd : ∀ {S : Sh}, (∀ p ∈ S, Bd 200 p.2.2) → Bd (200 * S.length + 2) (bots S)
  | [], _ => Bd.of (by decide)
  | p :: S, h => by
    have := (h p (List.mem_cons_self ..)).mul (bots_bd fun q hq => h q (List.mem_cons_of_mem _ hq))
    exact Bd.mono (m := 200 + (200 * S.length + 2)) this (by rw [List.length_cons]; omega)
section
variable {ss : List Str} {S : Sh}
theorem GS.shok (h : GS ss S) : ShOk S := ⟨h.nd, fun p hp => ⟨(h.ok p hp).1, Int.le_of_lt (h.ok p hp).2⟩⟩
theorem GS.nz (h : GS ss S) : NZ S := fun p hp z => by
  have := (h.ok p hp).2
  rw [z] at this
  exact absurd this (by decide)
theorem GS.qnn (h : GS ss S) : ∀ p ∈ S, 0 ≤ qF p.2 := fun p hp => q_nn (h.ok p hp).1.pos (Int.le_of_lt (h.ok p hp).2)
theorem GS.le (h : GS ss S) {p : Str × Int × Int} (hp : p ∈ S) : p.2.1 ≤ p.2.2 := by
  have := tot_le h.qnn p hp
  rw [h.tot, ← q_one] at this
  have n := fun z => Rat.not_lt.mpr this ((q_lt (f := (1, 1)) (g := p.2) (by decide) (h.ok p hp).1.pos).mpr z)
  unfold ltF at n
  simp at n
  exact n
theorem GS.bd (h : GS ss S) {p : Str × Int × Int} (hp : p ∈ S) : Bd 200 p.2.1 ∧ Bd 200 p.2.2 := by
  have a := h.fin p hp
  have b := h.le hp
  have c := h.ok p hp
  have p0 := c.1.pos
  have e : (2 : Nat) ^ 200 = 1606938044258990275541962092341162602522202993782792835301376 := by decide
  unfold FIN at a
  refine ⟨Bd.of ?_, Bd.of ?_⟩ <;> rw [e] <;> omega
theorem GS.names (h : GS ss S) : ∀ x ∈ S.map (·.1), x ∈ ss := fun x hx => by
  obtain ⟨p, hp, rfl⟩ := List.mem_map.mp hx
  exact h.nm p hp
theorem GS.len (h : GS ss S) : S.length ≤ ss.length := by
  have := nd_le h.nd h.names
  rwa [List.length_map] at this
theorem GS.pf (h : GS ss S) {p : Str × Int × Int} (hp : p ∈ S) : PF p.2.2 p.2 := ⟨(h.ok p hp).1, Int.le_of_lt (h.ok p hp).2, h.le hp, Int.dvd_refl _⟩
theorem GS.pro (h : GS ss S) (h8 : ss.length = 8) {g k : Str} {f : Int × Int} (hg : g ∈ ss) (hk : k ∈ ss) (hgk : g ≠ k) (fok : FrOk f) (f0 : 0 < f.1) (b1 : Bd 600 f.1) (b2 : Bd 600 f.2) : ∃ D, PrO D S g k f := by
  have hO : ∀ p ∈ othS S g k, p ∈ S := fun p hp => (List.mem_filter.mp hp).1
  have pO : ∀ p ∈ othS S g k, 0 < p.2.2 := fun p hp => (h.ok p (hO p hp)).1.pos
  have ndO : ((othS S g k).map (·.1)).Nodup := h.nd.sublist (List.filter_sublist.map _)
  have l6 : (othS S g k).length ≤ 6 := by
    have := nd_le (l := g :: k :: (othS S g k).map (·.1)) (m := ss) (by
      rw [List.nodup_cons, List.nodup_cons]
      refine ⟨fun z => ?_, fun z => (othS_mem z).2.2 rfl, ndO⟩
      rcases List.mem_cons.mp z with e | e
      · exact hgk e
      · exact (othS_mem e).2.1 rfl) (fun x hx => by
      rcases List.mem_cons.mp hx with e | e
      · rw [e]; exact hg
      · rcases List.mem_cons.mp e with e | e
        · rw [e]; exact hk
        · exact h.names x (othS_mem e).1)
    rw [List.length_cons, List.length_cons, List.length_map] at this
    omega
  refine ⟨bots (othS S g k), h.shok, h.nz, fun p hp => ⟨h.pf hp, (h.bd hp).1.mono (by decide), (h.bd hp).2.mono (by decide)⟩, ⟨ndO, fun p hp => ?_, fun p hp => h.nz p (hO p hp)⟩, bots_pos pO, (bots_bd fun p hp => (h.bd (hO p hp)).2).mono (by omega), by have := h.len; omega, fok, f0, b1, b2⟩
  have := h.pf (hO p hp)
  exact ⟨this.ok, this.nn, this.le, bots_dvd p hp⟩
/-- what is told of good ones is good -/
theorem GS.told {T : Sh} {tt : List Str} (ok : ShOk T) (tot : totS T = 1) (nm : ∀ x ∈ T.map (·.1), x ∈ ss) (pm : tt.Perm (T.map (·.1))) (so : sortedS tt = true) (nf : ¬ ∃ p ∈ toldS T tt, FIN < p.2.2) : GS ss (toldS T tt) := by
  have sub : ((toldS T tt).map (·.1)).Sublist tt := by
    unfold toldS
    have := (List.filter_sublist (l := tt.map fun x => (x, shAt T x)) (p := fun p => decide (p.2 ≠ ((0, 1) : Int × Int)))).map (·.1)
    rw [List.map_map] at this
    have e : (tt.map ((·.1) ∘ fun x => (x, shAt T x))) = tt := List.map_id tt
    rw [e] at this
    exact this
  refine ⟨(pm.symm.nodup ok.nd).sublist sub, pw_sorted ((sorted_pw so).sublist sub), fun p hp => ?_, fun p hp z => nf ⟨p, hp, z⟩, by rw [totS_told ok.nd pm]; exact tot, fun p hp => nm _ (pm.mem_iff.mp (told_mem hp))⟩
  unfold toldS at hp
  obtain ⟨h1, h2⟩ := List.mem_filter.mp hp
  obtain ⟨x, _, rfl⟩ := List.mem_map.mp h1
  have a := ok.at x
  refine ⟨a.1, ?_⟩
  have n := of_decide_eq_true h2
  rcases Int.lt_or_eq_of_le a.2 with z | z
  · exact z
  · exact absurd (frOk_zero a.1 z.symm) n
end
end L2
namespace L2
theorem PF.s124 {D : Int} {f : Int × Int} (h : PF D f) : SF D 124 f := ⟨h.ok, h.nn, by have := h.le; have := h.nn; omega, h.dv⟩
end L2
namespace L2
open PySem PySem.Spec PyProof.Rows
/-! ### sums that are not brought down -/
noncomputable def plusU (a f : Int × Int) : Int × Int := (a.1 * f.2 + 1 * f.1 * a.2, a.2 * f.2)
noncomputable def sumU (l : List (Int × Int)) : Int × Int := l.foldl plusU (0, 1)
theorem sumU_take {l : List (Int × Int)} {i : Nat} {f : Int × Int} (h : l[i]? = some f) : sumU (l.take (i + 1)) = plusU (sumU (l.take i)) f := by
  unfold sumU
  rw [List.take_add_one, h, Option.toList_some, List.foldl_append]
  rfl
theorem q_raw {t b u c : Int} (hb : 0 < b) (hc : 0 < c) : qF (t * c + u * b, b * c) = qF (t, b) + qF (u, c) := by
  have a := cast_ne hb
  have d := cast_ne hc
  unfold qF
  dsimp only
  rw [Rat.intCast_add, Rat.intCast_mul, Rat.intCast_mul, Rat.intCast_mul]
  grind
theorem q_rawM {t b u c : Int} (hb : 0 < b) (hc : 0 < c) : qF (t * c + -1 * u * b, b * c) = qF (t, b) - qF (u, c) := by
  have a := cast_ne hb
  have d := cast_ne hc
  unfold qF
  dsimp only
  rw [show t * c + -1 * u * b = t * c - u * b by grind, Rat.intCast_sub, Rat.intCast_mul, Rat.intCast_mul, Rat.intCast_mul]
  grind
theorem q_plusU {a f : Int × Int} (ha : 0 < a.2) (hf : 0 < f.2) : qF (plusU a f) = qF a + qF f := by
  have := q_raw (t := a.1) (u := f.1) ha hf
  unfold plusU
  rw [Int.one_mul]
  exact this
theorem le_of_q {z : Int × Int} (p : 0 < z.2) (le : qF z ≤ 1) : z.1 ≤ z.2 := by
  rw [← q_one] at le
  have m := fun w => Rat.not_lt.mpr le ((q_lt (f := (1, 1)) (g := z) (by decide) p).mpr w)
  unfold ltF at m
  simp at m
  exact m
structure SU (S : Sh) (i : Nat) : Prop where
  pos : 0 < (sumU ((S.map (·.2)).take i)).2
  nn : 0 ≤ (sumU ((S.map (·.2)).take i)).1
  q : qF (sumU ((S.map (·.2)).take i)) = totS (S.take i)
  bd : Bd (200 * i + 2) (sumU ((S.map (·.2)).take i)).2
theorem su_ok {ss : List Str} {S : Sh} (h : GS ss S) : ∀ i, SU S i
  | 0 => ⟨by show (0 : Int) < 1; decide, by show (0 : Int) ≤ 0; decide, by rw [List.take_zero]; exact q_zero, Bd.mono (m := 2) (show Bd 2 (1 : Int) from Bd.of (by decide)) (by omega)⟩
  | i + 1 => by
    have ih := su_ok h i
    cases e : S[i]? with
    | none =>
      have hl : S.length ≤ i := List.getElem?_eq_none_iff.mp e
      have e1 : (S.map (·.2)).take (i + 1) = (S.map (·.2)).take i := by rw [List.take_of_length_le (by rw [List.length_map]; omega), List.take_of_length_le (by rw [List.length_map]; omega)]
      have e2 : S.take (i + 1) = S.take i := by rw [List.take_of_length_le (by omega), List.take_of_length_le (by omega)]
      rw [show SU S (i + 1) ↔ SU S (i + 1) from Iff.rfl]
      exact ⟨by rw [e1]; exact ih.pos, by rw [e1]; exact ih.nn, by rw [e1, e2]; exact ih.q, by rw [e1]; exact ih.bd.mono (by omega)⟩
    | some p =>
      have hp := List.mem_of_getElem? e
      have em : (S.map (·.2))[i]? = some p.2 := by rw [List.getElem?_map, e]; rfl
      have st := sumU_take em
      have p0 := (h.ok p hp).1.pos
      have p1 := (h.ok p hp).2
      have pb := h.bd hp
      refine ⟨?_, ?_, ?_, ?_⟩
      · rw [st]; exact Int.mul_pos ih.pos p0
      · rw [st]
        have a := Int.mul_nonneg ih.nn (Int.le_of_lt p0)
        have b := Int.mul_nonneg (Int.le_of_lt p1) (Int.le_of_lt ih.pos)
        show 0 ≤ _ * p.2.2 + 1 * p.2.1 * _
        rw [Int.one_mul]
        omega
      · rw [st, q_plusU ih.pos p0, ih.q, List.take_add_one, e, Option.toList_some, totS_app, totS_cons, totS_nil]
        grind
      · rw [st]
        exact Bd.mono (m := 200 * i + 2 + 200) (ih.bd.mul pb.2) (by omega)
theorem su_le {ss : List Str} {S : Sh} (h : GS ss S) (i : Nat) : (sumU ((S.map (·.2)).take i)).1 ≤ (sumU ((S.map (·.2)).take i)).2 := by
  have u := su_ok h i
  have e : totS (S.take i) + totS (S.drop i) = 1 := by rw [← totS_app, List.take_append_drop, h.tot]
  have n := tot_nn (S := S.drop i) fun p hp => h.qnn p (List.mem_of_mem_drop hp)
  have le : qF (sumU ((S.map (·.2)).take i)) ≤ 1 := by
    rw [u.q]
    grind
  exact le_of_q u.pos le
theorem su_bd {ss : List Str} {S : Sh} (h : GS ss S) {i : Nat} (hi : i ≤ 8) : Bd 3000 (sumU ((S.map (·.2)).take i)).1 ∧ Bd 3000 (sumU ((S.map (·.2)).take i)).2 := by
  have u := su_ok h i
  have b : Bd 3000 (sumU ((S.map (·.2)).take i)).2 := u.bd.mono (by omega)
  refine ⟨Bd.of ?_, b⟩
  have := b.lt
  have := su_le h i
  have := u.nn
  omega
theorem su_all {ss : List Str} {S : Sh} (h : GS ss S) : (sumU (S.map (·.2))).1 = (sumU (S.map (·.2))).2 := by
  have u := su_ok h S.length
  have q := u.q
  have p := u.pos
  rw [List.take_of_length_le (by rw [List.length_map]; exact Nat.le_refl _)] at q p
  rw [List.take_of_length_le (Nat.le_refl _), h.tot, ← q_one] at q
  have := (q_eq p (by decide)).mp q
  simp at this
  exact this
theorem GS.sorted_self {ss : List Str} {S : Sh} (h : GS ss S) {tt : List Str} (pm : tt.Perm (S.map (·.1))) (so : sortedS tt = true) : tt = S.map (·.1) := sorted_uniq pm so h.so
end L2
namespace L2
open PySem PySem.Spec PyProof.Rows
theorem for_zip {K : PySem.W.Frag} {a l : Addr} {xs ys : List V} {g : TG} {tb : TS} {D : Ends} {σ : St} {H : Hp} (len : xs.length = ys.length) (Pv : Nat → St → Hp → Prop) (h0 : Pv 0 σ H) (hl : ∀ i σ H, i ≤ xs.length → Pv i σ H → SqT K H a xs ∧ SqL K H l ys)
    (hs : ∀ i x y σ H T, xs[i]? = some x → ys[i]? = some y → H T = none → Pv i σ H → g (.ref T) σ (upd H T (.tup [x, y])) fun σ2 H2 => tb { D with nx := Pv (i + 1), ct := Pv (i + 1), bk := D.nx } σ2 H2) (hd : ∀ σ H, Pv xs.length σ H → D.nx σ H) :
    ∃ W : Nat → Nat → St → Hp → Prop, (∃ m, W 0 m σ H) ∧ ∀ i m σ H, W i m σ H →
      ((Itz K a l).stop i H ∧ D.nx σ H) ∨ ((Itz K a l).go i H ∧ ∃ N : St → Hp → Prop, (∀ σ' H', N σ' H' → ∃ m', m' < m ∧ W (i + 1) m' σ' H') ∧ ∀ x H', (Itz K a l).yld i H x H' → g x σ H' fun σ2 H2 => tb { D with nx := N, ct := N, bk := D.nx } σ2 H2) := by
  refine ⟨fun i m σ H => m = xs.length - i ∧ i ≤ xs.length ∧ Pv i σ H, ⟨xs.length, by simp, Nat.zero_le _, h0⟩, ?_⟩
  rintro i m σ H ⟨rfl, hi, p⟩
  have q := hl i σ H hi p
  by_cases hlt : i < xs.length
  · refine .inr ⟨⟨xs, ys, xs[i], ys[i]'(by omega), q.1, q.2, by simp [hlt], by simp [← len, hlt]⟩, Pv (i + 1), fun σ' H' p' => ⟨xs.length - (i + 1), by omega, rfl, hlt, p'⟩, fun x H' y => ?_⟩
    obtain ⟨T, u, v, hT, rfl, rfl, y1, y2⟩ := y
    exact hs i u v σ H T (y1 xs q.1) (y2 ys q.2) hT p
  · have e : i = xs.length := by omega
    subst e
    exact .inl ⟨⟨xs, q.1, rfl⟩, hd σ H p⟩
/-- brought down -/
noncomputable def redP (p : Str × Int × Int) : Str × Int × Int := (p.1, frOf p.2.1 p.2.2)
/-- unlike shares that need not be brought down -/
structure UOk (n : Nat) (U : Sh) : Prop where
  nd : (U.map (·.1)).Nodup
  pos : ∀ p ∈ U, 0 < p.2.2
  bd : ∀ p ∈ U, Bd n p.2.1 ∧ Bd n p.2.2
theorem UOk.at {n : Nat} {U : Sh} (h : UOk n U) (hn : 2 ≤ n) (x : Str) : 0 < (shAt U x).2 ∧ Bd n (shAt U x).1 ∧ Bd n (shAt U x).2 := by
  by_cases z : x ∈ U.map (·.1)
  · have := shAt_mem z
    exact ⟨h.pos _ this, h.bd _ this⟩
  · rw [shAt_out z]
    exact ⟨by decide, Bd.mono (m := 2) (Bd.of (by decide)) hn, Bd.mono (m := 2) (Bd.of (by decide)) hn⟩
theorem UOk.put {n : Nat} {U : Sh} (h : UOk n U) (x : Str) {f : Int × Int} (p : 0 < f.2) (b1 : Bd n f.1) (b2 : Bd n f.2) : UOk n (putS U x f) := by
  refine ⟨putS_nodup h.nd .., fun q hq => ?_, fun q hq => ?_⟩
  · rcases putS_mem hq with e | e
    · rw [e]; exact p
    · exact h.pos q e
  · rcases putS_mem hq with e | e
    · rw [e]; exact ⟨b1, b2⟩
    · exact h.bd q e
theorem toldP_mem {U : Sh} {ss : List Str} {p : Str × Int × Int} (h : p ∈ toldP U ss) : p.1 ∈ ss ∧ p.2 = shAt U p.1 := by
  unfold toldP at h
  obtain ⟨h1, _⟩ := List.mem_filter.mp h
  obtain ⟨x, hx, rfl⟩ := List.mem_map.mp h1
  exact ⟨hx, rfl⟩
theorem cross_red {t b : Int} (hb : 0 < b) : (frOf t b).1 * b = t * (frOf t b).2 := by
  show frT t b * b = t * frB t b
  rw [fr_cross, Int.mul_comm]
/-- two dicts that say the same tell the same -/
theorem told_red {U T : Sh} {ss tt : List Str} (hT : ShOk T) (e : ∀ x, frOf (shAt U x).1 (shAt U x).2 = shAt T x) (up : ∀ x, 0 < (shAt U x).2) (same : ∀ x, (x ∈ ss ∧ 0 < (shAt T x).1) ↔ (x ∈ tt ∧ 0 < (shAt T x).1)) (so : sortedS ss = true) (so' : sortedS tt = true) (nd : ss.Nodup) (nd' : tt.Nodup) :
    (toldP U ss).map redP = toldS T tt := by
  rw [← told_same hT]
  have pos : ∀ x, 0 < (shAt U x).1 ↔ 0 < (shAt T x).1 := fun x => by
    have o := (frOf_ok (shAt U x).1 (up x)).pos
    rw [← q_pos (up x), ← q_pos (hT.at x).1.pos, ← e x, q_frOf (up x)]
    rfl
  have fil : ∀ (S : Sh) (l : List Str), ((l.map fun x => (x, shAt S x)).filter fun p => decide (0 < p.2.1)) = (l.filter fun x => decide (0 < (shAt S x).1)).map fun x => (x, shAt S x) := fun S l => by
    rw [List.filter_map]
    rfl
  unfold toldP
  rw [fil, fil, List.map_map]
  have e1 : (ss.filter fun x => decide (0 < (shAt U x).1)) = ss.filter fun x => decide (0 < (shAt T x).1) := List.filter_congr fun x _ => by simp [pos x]
  have e2 : (ss.filter fun x => decide (0 < (shAt T x).1)) = tt.filter fun x => decide (0 < (shAt T x).1) := by
    refine sorted_uniq ?_ (pw_sorted ((sorted_pw so).sublist List.filter_sublist)) (pw_sorted ((sorted_pw so').sublist List.filter_sublist))
    rw [List.perm_ext_iff_of_nodup (nd.sublist List.filter_sublist) (nd'.sublist List.filter_sublist)]
    intro x
    rw [List.mem_filter, List.mem_filter]
    simp only [decide_eq_true_eq]
    exact same x
  rw [e1, e2]
  refine List.map_congr_left fun x _ => ?_
  show (x, frOf (shAt U x).1 (shAt U x).2) = (x, shAt T x)
  rw [e x]
end L2
namespace L2
open PySem PySem.Spec PyProof.Rows
/-! ### what would come of a part pressed, with fractions that are not brought down -/
noncomputable def minU (a f : Int × Int) : Int × Int := (a.1 * f.2 + -1 * f.1 * a.2, a.2 * f.2)
noncomputable def allU (S : Sh) (g k : Str) : Int × Int := minU (minU (1, 1) (shAt S g)) (shAt S k)
noncomputable def restU (S : Sh) (g k : Str) (f : Int × Int) : Int × Int := if ltF (allU S g k) (minU f (gvn S g f)) then allU S g k else minU f (gvn S g f)
noncomputable def lossU (s r h : Int × Int) : Int × Int := (s.1 * r.1 * h.2, s.2 * r.2 * h.1)
noncomputable def cutU (O : Sh) (r h : Int × Int) : Sh := if 0 < r.1 then O.map fun p => (p.1, minU p.2 (lossU p.2 r h)) else []
noncomputable def losU (O : Sh) (r h : Int × Int) : Sh := if 0 < r.1 then O.map fun p => (p.1, lossU p.2 r h) else []
noncomputable def wouA (S : Sh) (g k : Str) (f : Int × Int) : Sh := bothS (putS S g (minU (shAt S g) (gvn S g f))) (cutU (othS S g k) (restU S g k f) (allU S g k))
noncomputable def wouU (S : Sh) (g k : Str) (f : Int × Int) : Sh := putS (wouA S g k f) k (plusU (shAt (wouA S g k f) k) (plusU (gvn S g f) (restU S g k f)))
theorem q_minU {a f : Int × Int} (ha : 0 < a.2) (hf : 0 < f.2) : qF (minU a f) = qF a - qF f := q_rawM (t := a.1) (u := f.1) ha hf
theorem minU_pos {a f : Int × Int} (ha : 0 < a.2) (hf : 0 < f.2) : 0 < (minU a f).2 := Int.mul_pos ha hf
theorem plusU_pos {a f : Int × Int} (ha : 0 < a.2) (hf : 0 < f.2) : 0 < (plusU a f).2 := Int.mul_pos ha hf
theorem bd_neg {n : Nat} {x : Int} (h : Bd n x) : Bd n (-1 * x) := by
  refine Bd.of ?_
  have := h.lt
  rw [show (-1 : Int) * x = -x by omega, Int.natAbs_neg]
  exact this
theorem bd_minU {n m : Nat} {f g : Int × Int} (f1 : Bd n f.1) (f2 : Bd n f.2) (g1 : Bd m g.1) (g2 : Bd m g.2) : Bd (n + m + 1) (minU f g).1 ∧ Bd (n + m) (minU f g).2 := by
  refine ⟨?_, f2.mul g2⟩
  have a := f1.mul g2
  have b := (bd_neg g1).mul f2
  exact (Bd.add a b).mono (by omega)
theorem bd_plusU {n m : Nat} {f g : Int × Int} (f1 : Bd n f.1) (f2 : Bd n f.2) (g1 : Bd m g.1) (g2 : Bd m g.2) : Bd (n + m + 1) (plusU f g).1 ∧ Bd (n + m) (plusU f g).2 := by
  refine ⟨?_, f2.mul g2⟩
  have a := f1.mul g2
  have b := g1.mul f2
  unfold plusU
  rw [Int.one_mul]
  exact (Bd.add a b).mono (by omega)
theorem q_lossU {s r h : Int × Int} (hs : 0 < s.2) (hr : 0 < r.2) (h1 : 0 < h.1) (h2 : 0 < h.2) : qF (lossU s r h) = qF s * qF r / qF h := by
  have a := cast_ne hs
  have b := cast_ne hr
  have c := cast_ne h1
  have d := cast_ne h2
  unfold lossU qF
  dsimp only
  rw [Rat.intCast_mul, Rat.intCast_mul, Rat.intCast_mul, Rat.intCast_mul]
  grind
theorem q_quot {f g : Int × Int} (hf : 0 < f.2) (hg : 0 < g.1) (hg2 : 0 < g.2) : qF (quotF f g) = qF f / qF g := by
  have a := cast_ne hf
  have b := cast_ne hg
  have c := cast_ne hg2
  unfold quotF
  rw [q_frOf (Int.mul_pos hf hg), Rat.intCast_mul, Rat.intCast_mul]
  unfold qF
  grind
theorem q_loss {s r h : Int × Int} (hs : 0 < s.2) (hr : 0 < r.2) (h1 : 0 < h.1) (h2 : 0 < h.2) : qF (lossF s r h) = qF s * qF r / qF h := by
  unfold lossF
  rw [q_prod hs (quot_ok hr h1).pos, q_quot hr h1 h2]
  have := (q_pos h2).mpr h1
  grind
theorem tot_oth {S : Sh} (nd : (S.map (·.1)).Nodup) {g k : Str} (hgk : g ≠ k) : totS (othS S g k) = totS S - qS S g - qS S k := by
  have one : ∀ (T : Sh) (x : Str), (T.map (·.1)).Nodup → totS (T.filter fun p => decide (p.1 ≠ x)) = totS T - qS T x := by
    intro T x
    induction T with
    | nil => intro _; show (0 : Rat) = 0 - qF (0, 1); rw [q_zero]; grind
    | cons p T ih =>
      intro n
      rw [List.map_cons, List.nodup_cons] at n
      have ih' := ih n.2
      unfold qS at ih' ⊢
      rw [totS_cons]
      by_cases e : p.1 = x
      · have e1 : shAt (p :: T) x = p.2 := by unfold shAt; rw [List.find?_cons, decide_eq_true e]; rfl
        have e2 : shAt T x = (0, 1) := shAt_out (by rw [← e]; exact n.1)
        rw [List.filter_cons_of_neg (by simp [e]), ih', e1, e2, q_zero]
        grind
      · have e1 : shAt (p :: T) x = shAt T x := by unfold shAt; rw [List.find?_cons, decide_eq_false e]
        rw [List.filter_cons_of_pos (by simpa using e), totS_cons, ih', e1]
        grind
  have e : othS S g k = (S.filter fun p => decide (p.1 ≠ g)).filter fun p => decide (p.1 ≠ k) := by
    unfold othS
    rw [List.filter_filter]
    refine List.filter_congr fun p _ => ?_
    by_cases a : p.1 = g <;> by_cases b : p.1 = k <;> simp [a, b]
  have n1 : ((S.filter fun p => decide (p.1 ≠ g)).map (·.1)).Nodup := nd.sublist (List.filter_sublist.map _)
  rw [e, one _ k n1, one S g nd]
  have e2 : shAt (S.filter fun p => decide (p.1 ≠ g)) k = shAt S k := by
    unfold shAt
    congr 2
    rw [List.find?_filter]
    refine congrArg (fun q => S.find? q) (funext fun p => ?_)
    by_cases b : p.1 = k
    · have : p.1 ≠ g := fun z => hgk (z.symm.trans b)
      simp [b, Ne.symm hgk]
    · simp [b]
  unfold qS
  rw [e2]
section
variable {ss : List Str} {S : Sh} {g k : Str} {f : Int × Int} {D : Int}
theorem GS.atp (h : GS ss S) (x : Str) : 0 < (shAt S x).2 ∧ 0 ≤ (shAt S x).1 ∧ Bd 200 (shAt S x).1 ∧ Bd 200 (shAt S x).2 ∧ FrOk (shAt S x) := by
  have a := h.shok.at x
  refine ⟨a.1.pos, a.2, ?_⟩
  by_cases z : x ∈ S.map (·.1)
  · have := h.bd (shAt_mem z)
    exact ⟨this.1, this.2, a.1⟩
  · rw [shAt_out z]
    exact ⟨Bd.mono (m := 2) (Bd.of (by decide)) (by decide), Bd.mono (m := 2) (Bd.of (by decide)) (by decide), nought_ok⟩
theorem q_all (h : GS ss S) (hgk : g ≠ k) : 0 < (allU S g k).2 ∧ qF (allU S g k) = qF (sumF ((othS S g k).map (·.2))) ∧ Bd 403 (allU S g k).1 ∧ Bd 403 (allU S g k).2 := by
  have a := h.atp g
  have b := h.atp k
  have p1 : 0 < (minU (1, 1) (shAt S g)).2 := minU_pos (by decide) a.1
  have b1 := bd_minU (f := (1, 1)) (n := 1) (Bd.of (by decide)) (Bd.of (by decide)) a.2.2.1 a.2.2.2.1
  have b2 := bd_minU (n := 202) (b1.1.mono (by decide)) (b1.2.mono (by decide)) b.2.2.1 b.2.2.2.1
  refine ⟨minU_pos p1 b.1, ?_, b2.1.mono (by decide), b2.2.mono (by decide)⟩
  unfold allU
  rw [q_minU p1 b.1, q_minU (by decide) a.1, q_one, totS_sumF (S := othS S g k) fun p hp => (h.ok p (List.mem_filter.mp hp).1).1, tot_oth h.nd hgk, h.tot]
  rfl
theorem gvn_ok (h : GS ss S) (fok : FrOk f) (b1 : Bd 250 f.1) (b2 : Bd 250 f.2) (f0 : 0 < f.1) : 0 < (gvn S g f).2 ∧ Bd 250 (gvn S g f).1 ∧ Bd 250 (gvn S g f).2 ∧ 0 ≤ (gvn S g f).1 ∧ ¬ ltF f (gvn S g f) := by
  have a := h.atp g
  unfold gvn
  rcases less_cases f (shAt S g) with ⟨e, n⟩ | ⟨e, n⟩
  · rw [e]; exact ⟨fok.pos, b1, b2, Int.le_of_lt f0, by unfold ltF; omega⟩
  · rw [e]; exact ⟨a.1, a.2.2.1.mono (by decide), a.2.2.2.1.mono (by decide), a.2.1, by unfold ltF at n ⊢; omega⟩
structure RestI (S : Sh) (g k : Str) (f : Int × Int) : Prop where
  p : 0 < (restU S g k f).2
  q : qF (restU S g k f) = qF (rst S g k f)
  b1 : Bd 502 (restU S g k f).1
  b2 : Bd 502 (restU S g k f).2
  le : 0 < (restU S g k f).1 → 0 < (allU S g k).1
  iff : 0 < (restU S g k f).1 ↔ 0 < (rst S g k f).1
theorem rest_i (h : GS ss S) (hP : PrO D S g k f) (hgk : g ≠ k) (b1 : Bd 250 f.1) (b2 : Bd 250 f.2) : RestI S g k f := by
  have v := gvn_ok (g := g) h hP.fok b1 b2 hP.f0
  have al := q_all h hgk
  have lk := hP.lk
  have hd := hP.ot.hold hP.d0
  have m0 : 0 < (minU f (gvn S g f)).2 := minU_pos hP.fok.pos v.1
  have mb := bd_minU b1 b2 v.2.1 v.2.2.1
  have ql : qF (minU f (gvn S g f)) = qF (lck S g f) := by
    unfold lck
    rw [q_minU hP.fok.pos v.1, q_minus hP.fok.pos v.1]
  have c : ltF (allU S g k) (minU f (gvn S g f)) ↔ ltF (sumF ((othS S g k).map (·.2))) (lck S g f) := by
    rw [← q_lt al.1 m0, ← q_lt hd.ok.pos lk.1.pos, al.2.1, ql]
  have key : 0 < (restU S g k f).2 ∧ qF (restU S g k f) = qF (rst S g k f) ∧ Bd 502 (restU S g k f).1 ∧ Bd 502 (restU S g k f).2 ∧ qF (restU S g k f) ≤ qF (allU S g k) := by
    unfold restU rst lessF
    by_cases z : ltF (allU S g k) (minU f (gvn S g f))
    · rw [if_pos z, if_pos (c.mp z)]
      exact ⟨al.1, al.2.1, al.2.2.1.mono (by decide), al.2.2.2.mono (by decide), Rat.le_refl⟩
    · rw [if_neg z, if_neg (fun w => z (c.mpr w))]
      exact ⟨m0, ql, mb.1.mono (by decide), mb.2.mono (by decide), Rat.not_lt.mp (fun w => z ((q_lt al.1 m0).mp w))⟩
  obtain ⟨k1, k2, k3, k4, k5⟩ := key
  have ro := rest_ok hP.ot hP.d0 lk.1 lk.2.1
  have rp : 0 < (rst S g k f).2 := ro.1.pos
  refine ⟨k1, k2, k3, k4, fun z => ?_, ?_⟩
  · have := (q_pos k1).mpr z
    exact (q_pos al.1).mp (by grind)
  · rw [← q_pos k1, ← q_pos rp, k2]
theorem shAt_map (O : Sh) (F : Int × Int → Int × Int) (nd : (O.map (·.1)).Nodup) {x : Str} (hx : x ∈ O.map (·.1)) : shAt (O.map fun p => (p.1, F p.2)) x = F (shAt O x) := by
  have m := shAt_mem hx
  have : (x, F (shAt O x)) ∈ O.map fun p => (p.1, F p.2) := List.mem_map.mpr ⟨_, m, rfl⟩
  exact shAt_of_mem (S := O.map fun p => (p.1, F p.2)) (by rw [List.map_map]; exact nd) this
theorem map_names (O : Sh) (F : Int × Int → Int × Int) : (O.map fun p => (p.1, F p.2)).map (·.1) = O.map (·.1) := by rw [List.map_map]; rfl
theorem wouA_at (h : GS ss S) (x : Str) : shAt (wouA S g k f) x = if x ∈ (othS S g k).map (·.1) ∧ 0 < (restU S g k f).1 then minU (shAt S x) (lossU (shAt S x) (restU S g k f) (allU S g k)) else if x = g then minU (shAt S g) (gvn S g f) else shAt S x := by
  have ndO : ((othS S g k).map (·.1)).Nodup := h.nd.sublist (List.filter_sublist.map _)
  unfold wouA cutU
  by_cases r0 : 0 < (restU S g k f).1
  · rw [if_pos r0, bothS_at _ _ _ (by rw [map_names _ fun p => minU p (lossU p (restU S g k f) (allU S g k))]; exact ndO), map_names _ fun p => minU p (lossU p (restU S g k f) (allU S g k))]
    by_cases e : x ∈ (othS S g k).map (·.1)
    · rw [if_pos e, if_pos ⟨e, r0⟩, shAt_map _ (fun p => minU p (lossU p (restU S g k f) (allU S g k))) ndO e, othS_at h.nd e]
    · rw [if_neg e, if_neg (fun z => e z.1), shAt_put]
  · rw [if_neg r0, if_neg (fun z => r0 z.2)]
    show shAt (putS S g _) x = _
    rw [shAt_put]
theorem wou_q (h : GS ss S) (hP : PrO D S g k f) (hgk : g ≠ k) (b1 : Bd 250 f.1) (b2 : Bd 250 f.2) (x : Str) : qF (shAt (wouU S g k f) x) = qF (shAt (prsT S g k f) x) := by
  have v := gvn_ok (g := g) h hP.fok b1 b2 hP.f0
  have al := q_all h hgk
  have ri := rest_i h hP hgk b1 b2
  have ag := h.atp g
  have ak := h.atp k
  have ax := h.atp x
  have ro := rest_ok hP.ot hP.d0 hP.lk.1 hP.lk.2.1
  have rp : 0 < (rst S g k f).2 := ro.1.pos
  have hd := hP.ot.hold hP.d0
  rw [prsT_atO hP hgk]
  unfold wouU prsV
  rw [shAt_put]
  by_cases e1 : x = k
  · have ek : shAt (wouA S g k f) k = shAt S k := by
      rw [wouA_at h, if_neg (fun z => (othS_mem z.1).2.2 rfl), if_neg (Ne.symm hgk)]
    rw [if_pos e1, if_pos e1, ek, q_plusU ak.1 (plusU_pos v.1 ri.p), q_plusU v.1 ri.p, q_plus ak.1 (plusF_ok v.1 rp).pos, q_plus v.1 rp, ri.q]
  · rw [if_neg e1, if_neg e1, wouA_at h]
    by_cases e2 : x = g
    · rw [if_neg (fun z => (othS_mem z.1).2.1 e2), if_pos e2, if_pos e2, q_minU ag.1 v.1, q_minus ag.1 v.1]
    · rw [if_neg e2, if_neg e2]
      by_cases e3 : x ∈ (othS S g k).map (·.1) ∧ 0 < (restU S g k f).1
      · have a0 := ri.le e3.2
        have h0 : 0 < (sumF ((othS S g k).map (·.2))).1 := (q_pos hd.ok.pos).mp (by rw [← al.2.1]; exact (q_pos al.1).mpr a0)
        have lp : 0 < (lossU (shAt S x) (restU S g k f) (allU S g k)).2 := Int.mul_pos (Int.mul_pos ax.1 ri.p) a0
        have lp2 : 0 < (lossF (shAt S x) (rst S g k f) (sumF ((othS S g k).map (·.2)))).2 := (prodF_ok ax.1 (quot_ok rp h0).pos).pos
        rw [if_pos e3, if_pos ⟨e3.1, ri.iff.mp e3.2⟩, q_minU ax.1 lp, q_minus ax.1 lp2, q_lossU ax.1 ri.p a0 al.1, q_loss ax.1 rp h0 hd.ok.pos, ri.q, al.2.1]
      · rw [if_neg e3, if_neg (fun z => e3 ⟨z.1, ri.iff.mpr z.2⟩)]
theorem los_q (h : GS ss S) (hP : PrO D S g k f) (hgk : g ≠ k) (b1 : Bd 250 f.1) (b2 : Bd 250 f.2) (x : Str) : qF (shAt (losU (othS S g k) (restU S g k f) (allU S g k)) x) = qF (shAt (lost S g k f) x) := by
  have al := q_all h hgk
  have ri := rest_i h hP hgk b1 b2
  have lk := hP.lk
  have ro := rest_ok hP.ot hP.d0 lk.1 lk.2.1
  have rp : 0 < (rst S g k f).2 := ro.1.pos
  have hd := hP.ot.hold hP.d0
  have ndO := hP.ot.nd
  by_cases r0 : 0 < (restU S g k f).1
  · have a0 := ri.le r0
    have h0 : 0 < (sumF ((othS S g k).map (·.2))).1 := (q_pos hd.ok.pos).mp (by rw [← al.2.1]; exact (q_pos al.1).mpr a0)
    have e : lost S g k f = (othS S g k).map fun p => (p.1, lossF p.2 (rst S g k f) (sumF ((othS S g k).map (·.2)))) := lossL_pos hP.ot hP.d0 lk.1 lk.2.1 (ri.iff.mp r0)
    unfold losU
    rw [if_pos r0, e]
    by_cases m : x ∈ (othS S g k).map (·.1)
    · have ax := h.atp x
      rw [shAt_map _ (fun p => lossU p (restU S g k f) (allU S g k)) ndO m, shAt_map _ (fun p => lossF p (rst S g k f) (sumF ((othS S g k).map (·.2)))) ndO m, othS_at h.nd m, q_lossU ax.1 ri.p a0 al.1, q_loss ax.1 rp h0 hd.ok.pos, ri.q, al.2.1]
    · rw [shAt_out (by rw [map_names _ fun p => lossU p (restU S g k f) (allU S g k)]; exact m), shAt_out (by rw [map_names _ fun p => lossF p (rst S g k f) (sumF ((othS S g k).map (·.2)))]; exact m)]
  · have e : lost S g k f = [] := lossL_zero hP.ot hP.d0 lk.1 lk.2.1 (fun z => r0 (ri.iff.mpr z))
    unfold losU
    rw [if_neg r0, e]
end
end L2
namespace L2
open PySem PySem.Spec PyProof.Rows
noncomputable def mixW (S F : Sh) (m : Int) (x : Str) : Int × Int := ((plusU (m * (shAt S x).1, (shAt S x).2) (3 * (shAt F x).1, (shAt F x).2)).1, (plusU (m * (shAt S x).1, (shAt S x).2) (3 * (shAt F x).1, (shAt F x).2)).2 * (m + 3))
theorem q_mixW {S F : Sh} {m : Int} (hm : 0 < m) (x : Str) (hS : 0 < (shAt S x).2) (hF : 0 < (shAt F x).2) : 0 < (mixW S F m x).2 ∧ qF (mixW S F m x) = qF (mixV S m F 3 x) := by
  have m3 : 0 < m + 3 := by omega
  have a := cast_ne hS
  have b := cast_ne hF
  have c := cast_ne m3
  have p := Int.mul_pos (Int.mul_pos hS hF) m3
  have p' := Int.mul_pos (Int.mul_pos m3 hS) hF
  refine ⟨p, ?_⟩
  unfold mixV
  rw [q_frOf p']
  unfold mixW plusU qF
  dsimp only
  have e1 : ((m * (shAt S x).1 * (shAt F x).2 + 1 * (3 * (shAt F x).1) * (shAt S x).2 : Int) : Rat) = ((m * (shAt S x).1 * (shAt F x).2 + 3 * (shAt F x).1 * (shAt S x).2 : Int) : Rat) := by rw [Int.one_mul]
  have e2 : (((shAt S x).2 * (shAt F x).2 * (m + 3) : Int) : Rat) = (((m + 3) * (shAt S x).2 * (shAt F x).2 : Int) : Rat) := by congr 1; grind
  rw [e1, e2]
theorem mixW_out {S F : Sh} {m : Int} (hm : 0 < m) {x : Str} (h1 : x ∉ S.map (·.1)) (h2 : x ∉ F.map (·.1)) : qF (mixV S m F 3 x) = 0 := by
  unfold mixV
  rw [shAt_out h1, shAt_out h2]
  have : frOf (m * (0 : Int) * 1 + 3 * (0 : Int) * 1) ((m + 3) * 1 * 1) = (0, 1) := by
    rw [show m * (0 : Int) * 1 + 3 * (0 : Int) * 1 = 0 by omega]
    exact frOf_zero (by omega)
  show qF (frOf (m * (0 : Int) * 1 + 3 * (0 : Int) * 1) ((m + 3) * 1 * 1)) = 0
  rw [this, q_zero]
/-! ### what comes of a deed -/
noncomputable def Little (S : Sh) (way : Int) (g : Str) (f : Int × Int) : Prop := way < 2 ∧ ltF (shAt S g) f
noncomputable def resD (S F : Sh) (way : Int) (g k : Str) (f : Int × Int) (m : Int) : Sh := if way = 4 then mixS S m 3 F else if g = k then S else prsT S g k f
noncomputable def lossD (S : Sh) (way : Int) (g k : Str) (f : Int × Int) : Sh := if way = 4 then [] else if g = k then [] else lost S g k f
/-- a deed that may be asked -/
structure DeedOk (ss : List Str) (S F : Sh) (way : Int) (g k : Str) (f : Int × Int) (m : Int) : Prop where
  h8 : ss.length = 8
  gS : GS ss S
  gF : GS ss F
  hg : g ∈ ss
  hk : k ∈ ss
  fok : FrOk f
  f0 : 0 < f.1
  b1 : Bd 250 f.1
  b2 : Bd 250 f.2
  w0 : 0 ≤ way
  w5 : way < 5
  m1 : 1 ≤ m
  m2 : m ≤ 64
section
variable {ss : List Str} {S F : Sh} {way : Int} {g k : Str} {f : Int × Int} {m : Int}
theorem DeedOk.pro (h : DeedOk ss S F way g k f m) (hgk : g ≠ k) : ∃ D, PrO D S g k f := h.gS.pro h.h8 h.hg h.hk hgk h.fok h.f0 (h.b1.mono (by decide)) (h.b2.mono (by decide))
theorem resD_ok (h : DeedOk ss S F way g k f m) : ShOk (resD S F way g k f m) ∧ totS (resD S F way g k f m) = 1 ∧ ∀ x ∈ (resD S F way g k f m).map (·.1), x ∈ ss := by
  unfold resD
  by_cases w : way = 4
  · rw [if_pos w]
    have m0 : 0 < m := by have := h.m1; omega
    refine ⟨⟨mixS_nodup .., fun p hp => ?_⟩, totS_mix h.gS.shok h.gF.shok m0 (by decide) h.gS.tot h.gF.tot, fun x hx => ?_⟩
    · have e := shAt_of_mem (mixS_nodup S m 3 F) hp
      rw [mixS_at h.gS.shok h.gF.shok m0 (by decide)] at e
      rw [← e]
      have a := h.gS.shok.at p.1
      have b := h.gF.shok.at p.1
      have pp := Int.mul_pos (Int.mul_pos (show 0 < m + 3 by omega) a.1.pos) b.1.pos
      unfold mixV
      refine ⟨frOf_ok _ pp, frT_nn ?_ pp⟩
      have x1 := Int.mul_nonneg (Int.mul_nonneg (Int.le_of_lt m0) a.2) (Int.le_of_lt b.1.pos)
      have x2 := Int.mul_nonneg (Int.mul_nonneg (show (0 : Int) ≤ 3 by decide) b.2) (Int.le_of_lt a.1.pos)
      omega
    · rcases (mixS_names S m 3 F x).mp hx with z | z
      · exact h.gS.names x z
      · exact h.gF.names x z
  · rw [if_neg w]
    by_cases e : g = k
    · rw [if_pos e]
      exact ⟨h.gS.shok, h.gS.tot, h.gS.names⟩
    · rw [if_neg e]
      obtain ⟨D, hP⟩ := h.pro e
      refine ⟨prsT_okO hP e, by rw [totS_prs hP]; exact h.gS.tot, fun x hx => ?_⟩
      rcases (prsT_namesO hP x).mp hx with z | z | z
      · exact h.gS.names x z
      · rw [z]; exact h.hg
      · rw [z]; exact h.hk
theorem hand_prs (h : DeedOk ss S F way g k f m) (hgk : g ≠ k) (nl : ¬ ltF (shAt S g) f) : prsT S g k f = handS S g k f ∧ lost S g k f = [] := by
  obtain ⟨D, hP⟩ := h.pro hgk
  have e1 : gvn S g f = f := by unfold gvn lessF; rw [if_neg nl]
  have e2 : lck S g f = (0, 1) := by unfold lck; rw [e1, minus_self h.fok.pos]
  have hd := hP.ot.hold hP.d0
  have e3 : lost S g k f = [] := by
    refine lossL_zero hP.ot hP.d0 hP.lk.1 hP.lk.2.1 ?_
    rw [e2]
    unfold lessF
    rw [if_neg (by
      unfold ltF
      have := hd.nn
      show ¬ _ * (1 : Int) < 0 * _
      omega)]
    decide
  refine ⟨?_, e3⟩
  unfold prsT prsA handS
  rw [e3, e1]
  show putS (putS S g (minusF (shAt S g) f)) k (plusF (shAt (putS S g (minusF (shAt S g) f)) k) (plusF f (0, 1))) = _
  rw [plus_nought h.fok]
/-- what the program tells of shares handed -/
theorem hand_told (h : DeedOk ss S F way g k f m) (w : way < 2) (nl : ¬ ltF (shAt S g) f) {tt : List Str} (pm : tt.Perm ((handS S g k f).map (·.1))) (so : sortedS tt = true) :
    ∃ uu : List Str, uu.Perm ((resD S F way g k f m).map (·.1)) ∧ sortedS uu = true ∧ toldS (handS S g k f) tt = toldS (resD S F way g k f m) uu := by
  unfold resD
  rw [if_neg (by omega)]
  by_cases e : g = k
  · subst e
    rw [if_pos rfl]
    refine ⟨S.map (·.1), .refl _, h.gS.so, ?_⟩
    rw [told_self h.gS.nd h.gS.so h.gS.nz (fun x => handS_self h.gS.shok h.fok.pos x) (handS_names (giver_in h.f0 nl)) pm so]
    rw [told_self h.gS.nd h.gS.so h.gS.nz (fun _ => rfl) rfl (.refl _) h.gS.so]
  · rw [if_neg e, (hand_prs h e nl).1]
    exact ⟨tt, pm, so, rfl⟩
/-- behind a deed: the same shares where it is refused, else what is told -/
noncomputable def Fine (S F : Sh) (way : Int) (g k : Str) (f : Int × Int) (m : Int) : Prop := ∃ p ∈ resD S F way g k f m, FIN < p.2.2
noncomputable def StepR (S F : Sh) (way : Int) (g k : Str) (f : Int × Int) (m : Int) (S' : Sh) : Prop :=
  ((Little S way g f ∨ Fine S F way g k f m) ∧ S' = S) ∨ ((¬ Little S way g f ∧ ¬ Fine S F way g k f m) ∧ ∃ tt : List Str, tt.Perm ((resD S F way g k f m).map (·.1)) ∧ sortedS tt = true ∧ S' = toldS (resD S F way g k f m) tt)
theorem StepR.uniq {S1 S2 : Sh} (a : StepR S F way g k f m S1) (b : StepR S F way g k f m S2) : S1 = S2 := by
  rcases a with ⟨a1, a2⟩ | ⟨a1, tt, a2, a3, a4⟩
  · rcases b with ⟨b1, b2⟩ | ⟨b1, _⟩
    · rw [a2, b2]
    · rcases a1 with z | z
      · exact absurd z b1.1
      · exact absurd z b1.2
  · rcases b with ⟨b1, b2⟩ | ⟨b1, uu, b2, b3, b4⟩
    · rcases b1 with z | z
      · exact absurd z a1.1
      · exact absurd z a1.2
    · rw [a4, b4, sorted_uniq (a2.trans b2.symm) a3 b3]
theorem StepR.good {S' : Sh} (h : DeedOk ss S F way g k f m) (a : StepR S F way g k f m S') : GS ss S' := by
  rcases a with ⟨_, rfl⟩ | ⟨a1, tt, a2, a3, rfl⟩
  · exact h.gS
  · obtain ⟨o1, o2, o3⟩ := resD_ok h
    exact GS.told o1 o2 o3 a2 a3 fun z => a1.2 ((fine_iff o1.nd a2).mp z)
end
end L2
namespace L2
open PySem PySem.Spec PyProof.Rows
section
variable {K : PySem.W.Frag} {H : Hp} {d : Addr} {U : Sh} {x : Str}
theorem sh_get2 {l : Addr} (hD : ShD K H d U) (hl : H l = none) : ∃ o p, DGet (upd H l (.tup [.int 0, .int 1])) d (.str x) o ∧ o.getD (.ref l) = .ref p ∧ SqT K (upd H l (.tup [.int 0, .int 1])) p [.int (shAt U x).1, .int (shAt U x).2] := by
  obtain ⟨kvs, hk, r⟩ := hD.same (Same.upd (o := .tup [.int 0, .int 1]) hl)
  obtain ⟨p, ep, hp⟩ := sh_get (x := x) r (SqT.of upd_same)
  exact ⟨_, p, DGet.k (k := Sum.inr x) hk, ep, hp⟩
theorem sh_getI (hD : ShD K H d U) (hx : x ∈ U.map (·.1)) : ∃ p, DGet H d (.str x) (some (.ref p)) ∧ SqT K H p [.int (shAt U x).1, .int (shAt U x).2] := by
  obtain ⟨kvs, hk, r⟩ := hD
  obtain ⟨p, ep, hp⟩ := sh_in r hx
  exact ⟨p, by rw [← ep]; exact DGet.k (k := Sum.inr x) hk, hp⟩
theorem sh_put {q : Addr} {t b : Int} (hD : ShD K H d U) (hl : U.length ≤ 100) (hq : SqT K H q [.int t, .int b]) : ∃ H', DPut H d (.str x) (.ref q) H' ∧ SameX d H H' ∧ TK H H' ∧ ShD K H' d (putS U x (t, b)) := by
  obtain ⟨kvs, hk, r⟩ := hD
  have lk : kvs.length = U.length := Paired.length r
  refine ⟨_, DPut.k (k := Sum.inr x) hk (small1000 (by omega)), SameX.upd, TK.dK hk, ⟨_, upd_same, ?_⟩⟩
  exact Paired.imp (fun _ _ => ShV.tk (TK.dK hk)) (shv_put hq r)
theorem ShD.isDD (hD : ShD K H d U) : IsDD H d := by
  obtain ⟨kvs, hk, _⟩ := hD
  exact .inl ⟨kvs, .inl hk⟩
theorem ShD.tkx {H' : Hp} {e : Addr} (s : SameX e H H') (t : TK H H') (ne : d ≠ e) (hD : ShD K H d U) : ShD K H' d U := by
  obtain ⟨kvs, hk, r⟩ := hD
  exact ⟨kvs, s _ _ ne hk, Paired.imp (fun _ _ => ShV.tk t) r⟩
/-- setdefault(x, (0, 1)) -/
theorem sh_dflt {l : Addr} (hD : ShD K H d U) (hl : H l = none) (hz : U.length ≤ 100) (Q : VK)
    (q : ∀ v H', SameX d H H' → TK H H' → ShD K H' d (if x ∈ U.map (·.1) then U else putS U x (0, 1)) → Q v H') : rDflt (.ref d) [.str x, .ref l] (upd H l (.tup [.int 0, .int 1])) Q := by
  have s := Same.upd (o := .tup [.int 0, .int 1]) hl
  have hD1 := hD.same s
  have h1 : SqT K (upd H l (.tup [.int 0, .int 1])) l [.int 0, .int 1] := SqT.of upd_same
  obtain ⟨kvs, hk, r⟩ := id hD1
  have lk : kvs.length = U.length := Paired.length r
  refine ⟨d, kvs, Sum.inr x, .ref l, rfl, rfl, hk, by omega, fun u hu => ?_, fun hn => ?_⟩
  · refine q _ _ s.x s.tk ?_
    rw [if_pos ?_]
    · exact hD1
    · rcases shv_val (x := x) r with ⟨h1, h2⟩ | ⟨p, f, h1, h2, h3⟩
      · rw [h1] at hu; cases hu
      · have m := List.mem_of_find?_eq_some h2
        have e : f.1 = x := by
          have := List.find?_some h2
          simpa using this
        exact List.mem_map.mpr ⟨f, m, e⟩
  · obtain ⟨H', g, sx, t, hD'⟩ := sh_put (x := x) hD1 hz h1
    refine q _ _ (s.x.trans SameX.upd) (s.tk.trans (TK.dK hk)) ?_
    rw [if_neg ?_]
    · refine ⟨_, upd_same, ?_⟩
      exact Paired.imp (fun _ _ => ShV.tk (TK.dK hk)) (shv_put h1 r)
    · intro hx
      obtain ⟨p, e, _⟩ := sh_in r hx
      rw [e] at hn
      cases hn
end
end L2
namespace L2
open PySem PySem.Spec PyProof.Rows
section
variable {O : Sh} {r h : Int × Int} {i : Nat} {p : Str × Int × Int}
theorem cutU_snoc {A : Sh} (r0 : 0 < r.1) (e : O[i]? = some p) : bothS A (cutU (O.take (i + 1)) r h) = putS (bothS A (cutU (O.take i) r h)) p.1 (minU p.2 (lossU p.2 r h)) := by
  unfold cutU bothS
  rw [if_pos r0, if_pos r0, List.take_add_one, e, Option.toList_some, List.map_append, List.foldl_append]
  rfl
theorem losU_snoc (nd : (O.map (·.1)).Nodup) (r0 : 0 < r.1) (e : O[i]? = some p) : losU (O.take (i + 1)) r h = putS (losU (O.take i) r h) p.1 (lossU p.2 r h) := by
  have nn : p.1 ∉ (O.take i).map (·.1) := fun z => by
    have n2 : ((O.take (i + 1)).map (·.1)).Nodup := by rw [List.map_take]; exact nd.sublist (List.take_sublist ..)
    rw [List.take_add_one, e, Option.toList_some, List.map_append, List.nodup_append] at n2
    exact n2.2.2 p.1 z p.1 (by simp) rfl
  unfold losU
  rw [if_pos r0, if_pos r0, List.take_add_one, e, Option.toList_some, List.map_append]
  unfold putS
  rw [if_neg]
  · rfl
  · intro z
    rw [any_names, map_names _ fun f => lossU f r h] at z
    exact nn z
theorem cutU_none (r0 : ¬ 0 < r.1) : cutU O r h = [] := if_neg r0
theorem losU_none (r0 : ¬ 0 < r.1) : losU O r h = [] := if_neg r0
theorem cutU_len : (cutU O r h).length ≤ O.length := by
  unfold cutU
  split
  · rw [List.length_map]; exact Nat.le_refl _
  · exact Nat.zero_le _
theorem losU_len : (losU O r h).length ≤ O.length := by
  unfold losU
  split
  · rw [List.length_map]; exact Nat.le_refl _
  · exact Nat.zero_le _
theorem cutU_zero : cutU (O.take 0) r h = [] := by unfold cutU; split <;> rfl
theorem losU_zero : losU (O.take 0) r h = [] := by unfold losU; split <;> rfl
end
end L2
namespace L2
open PySem PySem.Spec PyProof.Rows
/-- what the program answers to a deed -/
noncomputable def DoneR (K : PySem.W.Frag) (H : Hp) (l : Addr) (S F : Sh) (way : Int) (g k : Str) (f : Int × Int) (m : Int) : Prop :=
  (Little S way g f ∧ H l = some (.tup [.str (Str.ofString "little"), .bl true])) ∨
  (¬ Little S way g f ∧ Fine S F way g k f m ∧ H l = some (.tup [.str (Str.ofString "fine"), .bl true])) ∨
  (¬ Little S way g f ∧ ¬ Fine S F way g k f m ∧ ∃ (x r z : Addr) (tt : List Str), H l = some (.tup [.str (Str.ofString "made"), .ref x]) ∧ SqT K H x [.ref r, .ref z] ∧ tt.Perm ((resD S F way g k f m).map (·.1)) ∧ sortedS tt = true ∧
    ShF K H r (toldS (resD S F way g k f m) tt) ∧ ShT K H z (lossD S way g k f))
theorem DoneR.same {K : PySem.W.Frag} {H H' : Hp} {l : Addr} {S F : Sh} {way : Int} {g k : Str} {f : Int × Int} {m : Int} (s : Same H H') (h : DoneR K H l S F way g k f m) : DoneR K H' l S F way g k f m := by
  rcases h with ⟨a, b⟩ | ⟨a, b, c⟩ | ⟨a, b, x, r, z, tt, h1, h2, h3, h4, h5, h6⟩
  · exact .inl ⟨a, s _ _ b⟩
  · exact .inr (.inl ⟨a, b, s _ _ c⟩)
  · exact .inr (.inr ⟨a, b, x, r, z, tt, s _ _ h1, s.tup h2, h3, h4, h5.tk s.tk, h6.same s⟩)
theorem at_set {σ : St} {i : Nat} {v : V} {n : Nat} (h : σ.length = n) (hi : i < n) : (σ.set i (some v))[i]? = some (some v) := by
  rw [List.getElem?_set_self (by omega)]
end L2
namespace L2
open PySem PySem.Spec PyProof.Rows
theorem alike_ok {T U : Sh} {tt : List Str} (hT : ShOk T) (uU : UOk 6000 U) (eU : ∀ x, qF (shAt U x) = qF (shAt T x)) (pm : tt.Perm (T.map (·.1))) (so : sortedS tt = true) :
    ∀ ss : List Str, ss.Perm (U.map (·.1)) → sortedS ss = true → toldS T tt = (toldP U ss).map redP := by
  intro ss pm2 so2
  have up : ∀ x, 0 < (shAt U x).2 := fun x => (uU.at (by decide) x).1
  have pos : ∀ x, 0 < (shAt T x).1 → x ∈ tt ∧ x ∈ ss := fun x h => by
    have h2 : 0 < (shAt U x).1 := by
      rw [← q_pos (up x), eU, q_pos (hT.at x).1.pos]
      exact h
    refine ⟨pm.mem_iff.mpr (Decidable.byContradiction fun z => ?_), pm2.mem_iff.mpr (Decidable.byContradiction fun z => ?_)⟩
    · rw [shAt_out z] at h; exact absurd h (by decide)
    · rw [shAt_out z] at h2; exact absurd h2 (by decide)
  refine (told_red hT (fun x => ?_) up (fun x => ⟨fun h => ⟨(pos x h.2).1, h.2⟩, fun h => ⟨(pos x h.2).2, h.2⟩⟩) so2 so (pm2.symm.nodup uU.nd) (pm.symm.nodup hT.nd)).symm
  refine q_ok (frOf_ok _ (up x)) (hT.at x).1 ?_
  rw [q_frOf (up x), ← eU]
  rfl
section
variable {ss : List Str} {S F : Sh} {way : Int} {g k : Str} {f : Int × Int} {m : Int}
theorem loss_ok (h : DeedOk ss S F way g k f m) : ShOk (lossD S way g k f) ∧ sortedS ((lossD S way g k f).map (·.1)) = true ∧ NZ (lossD S way g k f) := by
  have nil : ShOk ([] : Sh) ∧ sortedS (([] : Sh).map (·.1)) = true ∧ NZ ([] : Sh) := ⟨⟨List.nodup_nil, fun _ z => (nomatch z)⟩, rfl, fun _ z => (nomatch z)⟩
  unfold lossD
  by_cases w : way = 4
  · rw [if_pos w]; exact nil
  · rw [if_neg w]
    by_cases e : g = k
    · rw [if_pos e]; exact nil
    · rw [if_neg e]
      obtain ⟨D, hP⟩ := h.pro e
      obtain ⟨nd, sub, ll, E, e0, bE, pE⟩ := lost_dataO hP
      have sO : sortedS ((othS S g k).map (·.1)) = true := pw_sorted ((sorted_pw h.gS.so).sublist (List.filter_sublist.map _))
      refine ⟨⟨nd, fun p hp => ⟨(pE p hp).ok, (pE p hp).nn⟩⟩, ?_, fun p hp => ?_⟩
      · by_cases r0 : 0 < (lessF (lck S g f) (sumF ((othS S g k).map (·.2)))).1
        · have nm := lossL_names hP.ot hP.d0 hP.lk.1 hP.lk.2.1 r0
          unfold lost
          rw [nm]
          exact sO
        · have z := lossL_zero hP.ot hP.d0 hP.lk.1 hP.lk.2.1 r0
          unfold lost
          rw [z]
          rfl
      · unfold lost lossL at hp
        split at hp
        · cases hp
        · exact of_decide_eq_true (List.mem_filter.mp hp).2
theorem loss_told (h : DeedOk ss S F way g k f m) : toldS (lossD S way g k f) ((lossD S way g k f).map (·.1)) = lossD S way g k f := by
  obtain ⟨a, b, c⟩ := loss_ok h
  exact told_self a.nd b c (fun _ => rfl) rfl (.refl _) b
/-- a bottom that is too great is among those of the dict that would come -/
theorem fine_in (h : DeedOk ss S F way g k f m) {U : Sh} (uU : UOk 6000 U) (eU : ∀ x, qF (shAt U x) = qF (shAt (resD S F way g k f m) x)) (fi : Fine S F way g k f m) : ∃ p ∈ U, FIN < frB p.2.1 p.2.2 := by
  obtain ⟨o1, o2, o3⟩ := resD_ok h
  obtain ⟨p, hp, z⟩ := fi
  have up : ∀ x, 0 < (shAt U x).2 := fun x => (uU.at (by decide) x).1
  have ep := shAt_of_mem o1.nd hp
  have eq : frOf (shAt U p.1).1 (shAt U p.1).2 = shAt (resD S F way g k f m) p.1 := by
    refine q_ok (frOf_ok _ (up _)) (o1.at _).1 ?_
    rw [q_frOf (up _), ← eU]
    rfl
  rw [ep] at eq
  have z2 : FIN < frB (shAt U p.1).1 (shAt U p.1).2 := by
    have : (frOf (shAt U p.1).1 (shAt U p.1).2).2 = p.2.2 := by rw [eq]
    show FIN < (frOf (shAt U p.1).1 (shAt U p.1).2).2
    rw [this]
    exact z
  have hx : p.1 ∈ U.map (·.1) := Decidable.byContradiction fun w => by
    rw [shAt_out w] at z2
    exact absurd z2 (by unfold FIN; decide)
  exact ⟨_, shAt_mem hx, z2⟩
end
theorem isDsb {K : PySem.W.Frag} {H : Hp} (x : Str) (b : Bool) : IsDs K H [.str x, .bool b] [.str x, .bl b] := .cons (.str _) (.cons (.bl _) .nil)
theorem lay_word (b : Bool) : (∀ x ∈ [Str.ofString "little", Str.ofString "fine"], PyData.canLay0 (.tuple [.str x, .bool b]) = true) := by
  intro x hx
  rcases List.mem_cons.mp hx with rfl | hx
  · cases b <;> decide +kernel
  · rw [List.mem_singleton.mp hx]
    cases b <;> decide +kernel
end L2
namespace L2
open PySem PySem.Spec PyProof.Rows
theorem Paired.rev {α β : Type} {R : α → β → Prop} : ∀ {xs : List α} {ys : List β}, Paired R xs ys → Paired R xs.reverse ys.reverse
  | _, _, .nil => .nil
  | _, _, .cons a b => by
    rw [List.reverse_cons, List.reverse_cons]
    exact Paired.app (Paired.rev b) (.cons a .nil)
noncomputable def prE (p : Str × Int × Int) : PyData × Int × Int := (.str p.1, p.2)
theorem acc_self : ∀ (L : Sh), (L.map (·.1)).Nodup → (∀ p ∈ L, FrOk p.2) → accS (L.map prE) = L := by
  intro L
  have key : ∀ n, ∀ L : Sh, L.length = n → (L.map (·.1)).Nodup → (∀ p ∈ L, FrOk p.2) → accS (L.map prE) = L := by
    intro n
    induction n with
    | zero =>
      intro L hL _ _
      rw [List.length_eq_zero_iff.mp hL]
      rfl
    | succ n ih =>
      intro L hL nd ok
      have hne : L ≠ [] := fun z => by rw [z] at hL; cases hL
      obtain ⟨M, p, e⟩ : ∃ M p, L = M ++ [p] := ⟨L.dropLast, L.getLast hne, (List.dropLast_concat_getLast hne).symm⟩
      subst e
      rw [List.length_append, List.length_singleton] at hL
      rw [List.map_append, List.nodup_append] at nd
      have pn : p.1 ∉ M.map (·.1) := fun z => nd.2.2 p.1 z p.1 (by simp) rfl
      have fp := ok p (by simp)
      have eM := ih M (by omega) nd.1 fun q hq => ok q (List.mem_append_left _ hq)
      rw [List.map_append]
      show accS (M.map prE ++ [prE p]) = _
      rw [accS_snoc, eM]
      show putS M p.1 (plusF (shAt M p.1) p.2) = M ++ [p]
      rw [shAt_out pn, nought_plus fp]
      unfold putS
      rw [if_neg (fun z => pn (any_names.mp z))]
  exact key L.length L rfl
theorem shAt_perm {S T : Sh} (h : S.Perm T) (nd : (S.map (·.1)).Nodup) (x : Str) : shAt T x = shAt S x := by
  have nT : (T.map (·.1)).Nodup := (h.map (·.1)).nodup nd
  by_cases z : x ∈ S.map (·.1)
  · have m := shAt_mem z
    exact shAt_of_mem (S := T) nT (h.mem_iff.mp m)
  · rw [shAt_out z, shAt_out (fun w => z ((h.map (·.1)).mem_iff.mpr w))]
section
variable {S : Sh}
theorem tot_own {ws : Ws} {N : Int} (ok : WsOk N ws) (t0 : 0 < totW ws) {tt : List Str} (pm : tt.Perm (ws.map (·.1))) : totS (ownS ws tt) = 1 := by
  have h1 : totS (ownS ws tt) = totS (ownS ws (ws.map (·.1))) := totS_perm (pm.map _)
  rw [h1]
  have hw : ∀ p ∈ ws, wOf ws p.1 = p.2 := fun p hp => by
    obtain ⟨_, q, hq, e1, e2⟩ := val_in (List.mem_map_of_mem (f := (·.1)) hp)
    rw [← e2]
    have : q = p := by
      have nd := ok.nd
      clear h1 e2 t0 pm
      have key : ∀ (l : Ws), (l.map (·.1)).Nodup → q ∈ l → p ∈ l → q.1 = p.1 → q = p := by
        intro l
        induction l with
        | nil => intro _ h; cases h
        | cons r l ih =>
          intro nd h1 h2 e
          rw [List.map_cons, List.nodup_cons] at nd
          rcases List.mem_cons.mp h1 with a | a
          · rcases List.mem_cons.mp h2 with b | b
            · rw [a, b]
            · exact absurd (List.mem_map_of_mem (f := (·.1)) b) (by rw [← e, a]; exact nd.1)
          · rcases List.mem_cons.mp h2 with b | b
            · exact absurd (List.mem_map_of_mem (f := (·.1)) a) (by rw [e, b]; exact nd.1)
            · exact ih nd.2 a b e
      exact key ws nd hq hp e1
    rw [this]
  have h2 : ∀ l : Ws, (∀ p ∈ l, wOf ws p.1 = p.2) → totS (ownS ws (l.map (·.1))) = (((l.map (·.2)).sum : Int) : Rat) / (totW ws : Rat) := by
    intro l
    induction l with
    | nil => intro _; show (0 : Rat) = ((0 : Int) : Rat) / _; have : ((0 : Int) : Rat) = 0 := rfl; grind
    | cons p l ih =>
      intro h
      have e : ownS ws ((p :: l).map (·.1)) = (p.1, frT (wOf ws p.1) (totW ws), frB (wOf ws p.1) (totW ws)) :: ownS ws (l.map (·.1)) := rfl
      rw [e, totS_cons, ih fun q hq => h q (List.mem_cons_of_mem _ hq), h p (List.mem_cons_self ..), List.map_cons, List.sum_cons, Rat.intCast_add]
      have z : qF (frT p.2 (totW ws), frB p.2 (totW ws)) = _ := q_frOf (t := p.2) t0
      show qF (frT p.2 (totW ws), frB p.2 (totW ws)) + _ = _
      rw [z]
      grind
  rw [h2 ws hw]
  have : ((ws.map (·.2)).sum : Int) = totW ws := rfl
  rw [this]
  have := cast_ne t0
  grind
theorem Owned.gs {ss : List Str} (h : Owned 10000000000000000000000000000000000000000000000000000000000 S) (nm : ∀ p ∈ S, p.1 ∈ ss) : GS ss S := by
  obtain ⟨ok, hz, hB, so, nz, hnm⟩ := h.data
  obtain ⟨D, d0, bD, pf, fin⟩ := h.pf
  refine ⟨ok.nd, so, fun p hp => ⟨(ok.ok p hp).1, ?_⟩, fin, ?_, nm⟩
  · rcases Int.lt_or_eq_of_le (ok.ok p hp).2 with z | z
    · exact z
    · exact absurd (frOk_zero (ok.ok p hp).1 z.symm) (nz p hp)
  · obtain ⟨ws, tt, wok, ⟨w1, w7⟩, pm, so, rfl⟩ := h.ex
    have tw := totW_le fun p hp => (wok.ok p hp).2
    exact tot_own wok (by omega) pm
end
/-- the pairs that shares are made of, from the last to the first -/
theorem first_told {ss : List Str} {S : Sh} (h : GS ss S) {tt : List Str} (pm : tt.Perm ((accS (S.reverse.map prE)).map (·.1))) (so : sortedS tt = true) : toldS (accS (S.reverse.map prE)) tt = S := by
  have nR : (S.reverse.map (·.1)).Nodup := ((List.reverse_perm S).symm.map (·.1)).nodup h.nd
  have e := acc_self S.reverse nR fun p hp => (h.ok p (List.mem_reverse.mp hp)).1
  rw [e] at pm ⊢
  have pm2 : tt.Perm (S.map (·.1)) := pm.trans ((List.reverse_perm S).map _)
  have et := sorted_uniq pm2 so h.so
  have e2 : toldS S.reverse tt = toldS S tt := by
    unfold toldS
    congr 1
    exact List.map_congr_left fun x _ => by rw [shAt_perm (List.reverse_perm S).symm h.nd]
  rw [e2]
  exact told_self h.nd h.so h.nz (fun _ => rfl) rfl pm2 so
theorem first_sum {ss : List Str} {S : Sh} (h : GS ss S) : sumF ((S.reverse.map prE).map (·.2)) = (1, 1) := by
  have e : (S.reverse.map prE).map (·.2) = S.reverse.map (·.2) := by rw [List.map_map]; rfl
  rw [e]
  have ok : ∀ p ∈ S.reverse, FrOk p.2 := fun p hp => (h.ok p (List.mem_reverse.mp hp)).1
  have q := totS_sumF (S := S.reverse) ok
  rw [totS_perm (List.reverse_perm S), h.tot, ← q_one] at q
  refine q_ok ?_ ⟨by decide, by decide⟩ q
  exact (q_sumF fun f hf => by
    obtain ⟨p, hp, rfl⟩ := List.mem_map.mp hf
    exact ok p hp).2
/-- a deed that was asked, as it lies -/
noncomputable def AskE (K : PySem.W.Frag) (H : Hp) (ss : List Str) (F : Sh) (v : V) : Prop :=
  ∃ (r sh de af p : Addr) (S S' : Sh) (way many t c : Int) (g k : Str), v = .ref r ∧ SqT K H r [.ref sh, .ref de, .ref af] ∧ ShF K H sh S ∧ SqT K H de [.int way, .str g, .str k, .ref p, .int many] ∧ SqT K H p [.int t, .int c] ∧
    DeedOk ss S F way g k (t, c) many ∧ ShF K H af S' ∧ StepR S F way g k (t, c) many S'
theorem AskE.tk {K : PySem.W.Frag} {H H' : Hp} {ss : List Str} {F : Sh} {v : V} (s : TK H H') (h : AskE K H ss F v) : AskE K H' ss F v := by
  obtain ⟨r, sh, de, af, p, S, S', way, many, t, c, g, k, e, h1, h2, h3, h4, h5, h6, h7⟩ := h
  exact ⟨r, sh, de, af, p, S, S', way, many, t, c, g, k, e, s.sq h1, h2.tk s, s.sq h3, s.sq h4, h5, h6.tk s, h7⟩
theorem lay_bsh {S : Sh} (h : ∀ p ∈ S, PyData.canLay0 (.str p.1) = true) : PyData.canLay0 (.tuple [.bool true, shD S]) = true := by
  have := lay_sh h
  show PyData.canLayAll0 [.bool true, shD S] = true
  simp only [PyData.canLayAll0, this, Bool.and_true]
  rfl
end L2
namespace LT
open PySem PyProof.Rows L2
/-! ### the sort of any length, whatever its keys are ranked by (after M82, which is for ints) -/
class KN where
  kn : Keyed → Int
  isK : Keyed → Prop
  kd : type_of% oneType'
class LtOk (prog : Program) (w : World) (A : Around) (E : Value → Shared → Prop) (s : Shared) [KN] : Prop where
  lt : ∀ {st : SortSt} {x y : Keyed} {Q : Option Bool → SortSt → Prop}, kindOf st = KN.kd → KN.isK x → KN.isK y → Q (some (decide (KN.kn x < KN.kn y))) st → wpS (model prog w) A E s (lt' x y) Q st
variable [KN]
section
variable {prog : Program} {w : World} {A : Around} {E : Value → Shared → Prop} {s : Shared} [LtOk prog w A E s]
end
end LT
namespace LT
open PySem PyProof.Rows L2
variable [KN]
end LT
namespace LT
open PySem PyProof.Rows L2
variable [KN]
section
variable {prog : Program} {w : World} {A : Around} {E : Value → Shared → Prop} {s : Shared} [LtOk prog w A E s]
end
end LT
namespace LT
open PySem PyProof.Rows L2
variable [KN]
end LT
namespace LT
open PySem PyProof.Rows L2
variable [KN]
section
variable {prog : Program} {w : World} {A : Around} {E : Value → Shared → Prop} {s : Shared} [LtOk prog w A E s]
end
end LT
namespace LT
open PySem PyProof.Rows L2
variable [KN]
section
variable {prog : Program} {w : World} {A : Around} {E : Value → Shared → Prop} {s : Shared} [LtOk prog w A E s] {a₀ : Array Keyed} {z : SortSt} {lo : Nat}
end
end LT
namespace LT
open PySem PyProof.Rows L2
variable [KN]
section
variable {prog : Program} {w : World} {A : Around} {E : Value → Shared → Prop} {s : Shared} [LtOk prog w A E s] {a₀ : Array Keyed} {z : SortSt} {lo : Nat}
end
end LT
namespace LT
open PySem PyProof.Rows L2
variable [KN]
section
variable {prog : Program} {w : World} {A : Around} {E : Value → Shared → Prop} {s : Shared} [LtOk prog w A E s] {a₀ : Array Keyed}
end
end LT
namespace LT
open PySem PyProof.Rows L2
variable [KN]
section
variable {prog : Program} {w : World} {A : Around} {E : Value → Shared → Prop} {s : Shared} [LtOk prog w A E s] {a₀ : Array Keyed}
end
end LT
namespace LT
open PySem PySem.Spec PyProof.Rows L2
/-! ### sorted(tuples that begin with unlike texts) -/
section
variable {prog : Program} {w : World} {A : Around} {E : Value → Shared → Prop} {s : Shared}
end
end LT
namespace LT
open PySem PySem.Spec PyProof.Rows L2
section
variable {prog : Program} {w : World} {A : Around} {E : Value → Shared → Prop} {s : Shared}
end
section
variable {X : Cx}
end
end LT
namespace L2
open PySem PySem.Spec PyProof.Rows LM
section
variable {X : Cx}
end
end L2
namespace L2
open PySem PySem.W
theorem len1 {P : List Value → Prop} (h : ∀ a0, P [a0]) (us : List Value) (hl : us.length = 1) : P us := by
  cases us with
  | nil => cases hl
  | cons a0 us => exact (show P (a0 :: us) from by cases us with | nil => exact h a0 | cons b us => cases hl)
theorem len2 {P : List Value → Prop} (h : ∀ a0 a1, P [a0, a1]) (us : List Value) (hl : us.length = 2) : P us := by
  cases us with
  | nil => cases hl
  | cons a0 us => exact len1 (P := fun us => P (a0 :: us)) (h a0) us (Nat.succ.inj hl)
theorem len3 {P : List Value → Prop} (h : ∀ a0 a1 a2, P [a0, a1, a2]) (us : List Value) (hl : us.length = 3) : P us := by
  cases us with
  | nil => cases hl
  | cons a0 us => exact len2 (P := fun us => P (a0 :: us)) (h a0) us (Nat.succ.inj hl)
theorem len4 {P : List Value → Prop} (h : ∀ a0 a1 a2 a3, P [a0, a1, a2, a3]) (us : List Value) (hl : us.length = 4) : P us := by
  cases us with
  | nil => cases hl
  | cons a0 us => exact len3 (P := fun us => P (a0 :: us)) (h a0) us (Nat.succ.inj hl)
theorem len5 {P : List Value → Prop} (h : ∀ a0 a1 a2 a3 a4, P [a0, a1, a2, a3, a4]) (us : List Value) (hl : us.length = 5) : P us := by
  cases us with
  | nil => cases hl
  | cons a0 us => exact len4 (P := fun us => P (a0 :: us)) (h a0) us (Nat.succ.inj hl)
theorem len6 {P : List Value → Prop} (h : ∀ a0 a1 a2 a3 a4 a5, P [a0, a1, a2, a3, a4, a5]) (us : List Value) (hl : us.length = 6) : P us := by
  cases us with
  | nil => cases hl
  | cons a0 us => exact len5 (P := fun us => P (a0 :: us)) (h a0) us (Nat.succ.inj hl)
end L2
namespace My
open PySem L2 LM PyProof.Rows
noncomputable def top (i : Nat) : Stmt := PySem.Challenge.pw_landroll_k27_whole_row_of_deeds.main.body.getD i (.Pass ⟨0, 0, 0, 0⟩)
noncomputable abbrev s_is_number : Stmt := top 7
noncomputable abbrev s_common_divisor : Stmt := top 11
noncomputable abbrev s_under : Stmt := top 18
noncomputable abbrev s_is_name : Stmt := top 25
noncomputable abbrev s_told_of : Stmt := top 26
noncomputable abbrev s_share_of : Stmt := top 30
noncomputable abbrev s_law_cell : Stmt := top 36
noncomputable abbrev s_law_whole : Stmt := top 37
noncomputable abbrev s_law_divisor : Stmt := top 38
noncomputable abbrev s_law_names : Stmt := top 40
noncomputable abbrev s_law_plus : Stmt := top 42
noncomputable abbrev s_law_under : Stmt := top 43
noncomputable abbrev s_law_alike : Stmt := top 48
noncomputable abbrev s_in_lowest_terms : Stmt := top 12
noncomputable abbrev s_lesser : Stmt := top 19
noncomputable abbrev s_law_fraction : Stmt := top 39
noncomputable abbrev s_law_good : Stmt := top 44
noncomputable abbrev s_law_would : Stmt := top 46
noncomputable abbrev s_fraction : Stmt := top 13
noncomputable abbrev s_plus : Stmt := top 14
noncomputable abbrev s_minus : Stmt := top 15
noncomputable abbrev s_product : Stmt := top 16
noncomputable abbrev s_quotient : Stmt := top 17
noncomputable abbrev s_law_owned : Stmt := top 41
noncomputable abbrev s_law_deed : Stmt := top 45
noncomputable abbrev s_sum_of : Stmt := top 20
noncomputable abbrev s_raise_share : Stmt := top 27
noncomputable abbrev s_lower_share : Stmt := top 28
noncomputable abbrev s_shares_of : Stmt := top 29
noncomputable abbrev s_hand_on : Stmt := top 31
noncomputable abbrev s_mixed : Stmt := top 32
noncomputable abbrev s_losses_by : Stmt := top 33
noncomputable abbrev s_pressed : Stmt := top 34
noncomputable abbrev s_law_done : Stmt := top 47
noncomputable abbrev s_law_step : Stmt := top 49
noncomputable abbrev s_law : Stmt := top 50
section
variable {P : Program} {w : World} {K : PySem.W.Frag} {mg : Str → Option Value} {base : Heap}
noncomputable def sp_is_number (K : PySem.W.Frag) : Sp := fun vs H Q _ => ∃ (x : V) (n : String), vs = [x] ∧ TyOf K H x (.type n) ∧ Q (.bl (isI x)) H
theorem sc_is_number : FnScope ["thing"] ["thing"] (defScope s_is_number) := ⟨rfl, rfl, rfl, by decide +kernel, rfl, by decide +kernel, by decide +kernel⟩
set_option maxHeartbeats 4000000 in
theorem ok_is_number (T : Tx K mg "is_number" s_is_number ["thing"]) (B : Bn mg) : Df P w K mg base 1 "is_number" ["thing"] (sp_is_number K) := by
  refine T.df sc_is_number (fun vs H Q E h => ?_) (fun f cdv A outer s H vs Q E hr h => ?_)
  · obtain ⟨x, n, rfl, ty, q⟩ := h
    rfl
  · obtain ⟨x, n, rfl, ty, q⟩ := h
    refine ⟨_, (pss_one (ps_ret (pe_and (pe_callB call_isi (by rfl) B.isinstance boot_isinstance (pa_cons (pv 0) (pa_cons (pe_bltn (x := "int") (v := .ty "int") (by rfl) B.int boot_int rfl) pa_nil))) (pe_one (pe_not (pe_callB call_isi (by rfl) B.isinstance boot_isinstance (pa_cons (pv 0) (pa_cons (pe_bltn (x := "bool") (v := .ty "bool") (by rfl) B.bool boot_bool rfl) pa_nil)))))))), ?_⟩
    have k1 := kit_int K ty
    have k2 := kit_bool K ty
    refine ⟨_, rfl, _, _, _, _, rfl, ty, k1, _, rfl, ?_⟩
    refine ite2 (fun h1 => ?_) (fun h1 => ?_)
    · refine ⟨_, rfl, _, _, _, _, rfl, ty, k2, _, rfl, ?_⟩
      cases x <;> simp_all [isI, isB]
    · cases x <;> simp_all [isI, isB]
noncomputable def sp_common_divisor (K : PySem.W.Frag) : Sp := fun vs H Q _ => ∃ (x y : Int), vs = [.int x, .int y] ∧ Q (.int (Int.gcd x y : Nat)) H
theorem sc_common_divisor : FnScope ["one", "other", "found", "rest", "behind"] ["one", "other"] (defScope s_common_divisor) := ⟨rfl, rfl, rfl, by decide +kernel, rfl, by decide +kernel, by decide +kernel⟩
set_option maxHeartbeats 4000000 in
theorem ok_common_divisor (T : Tx K mg "common_divisor" s_common_divisor ["one", "other"]) (B : Bn mg) (b_abs : mg "abs" = none) : Df P w K mg base 1 "common_divisor" ["one", "other"] (sp_common_divisor K) := by
  refine T.df sc_common_divisor (fun vs H Q E h => ?_) (fun f cdv A outer s H vs Q E hr h => ?_)
  · obtain ⟨x, y, rfl, q⟩ := h
    rfl
  · obtain ⟨x, y, rfl, q⟩ := h
    refine ⟨_, (pss_cons (ps_set (i := 2) sc_common_divisor.nd rfl (by first | exact Or.inl rfl | exact Or.inr rfl) (pe_callB call_abs (by rfl) b_abs boot_abs (pa_cons (pv 0) pa_nil)))
      (pss_cons (ps_set (i := 3) sc_common_divisor.nd rfl (by first | exact Or.inl rfl | exact Or.inr rfl) (pe_callB call_abs (by rfl) b_abs boot_abs (pa_cons (pv 1) pa_nil)))
      (pss_cons (ps_while PassesOwn.never (pt_cmpR op_ne (pv 3) pe_int (nomark _)) (pss_cons (ps_set (i := 4) sc_common_divisor.nd rfl (by first | exact Or.inl rfl | exact Or.inr rfl) (pe_op op_modN (pv 2) (pv 3)))
      (pss_cons (ps_set (i := 2) sc_common_divisor.nd rfl (by first | exact Or.inl rfl | exact Or.inr rfl) (pv 3))
      (pss_one (ps_set (i := 3) sc_common_divisor.nd rfl (by first | exact Or.inl rfl | exact Or.inr rfl) (pv 4))))))
      (pss_one (ps_ret (pv 2)))))), ?_⟩
    refine ⟨_, rfl, _, rfl, _, rfl, _, rfl, ?_⟩
    refine ⟨fun m σ H2 => ∃ (f r : Int) (o : Option V), σ = [some (.int x), some (.int y), some (.int f), some (.int r), o] ∧ H2 = H ∧ Int.gcd f r = Int.gcd x y ∧ 0 ≤ f ∧ 0 ≤ r ∧ m = r.natAbs, ⟨_, _, _, _, rfl, rfl, gcd_abs x y, abs_nn x, abs_nn y, rfl⟩, ?_⟩
    rintro m σ H2 ⟨f, r, o, rfl, rfl, hg, hf, hr, rfl⟩
    refine ⟨_, rfl, rfl, _, rfl, ?_⟩
    refine ite2 (fun h1 => ?_) (fun h1 => ?_)
    · have h1' : r ≠ 0 := by
        intro z
        rw [z] at h1
        revert h1
        decide
      refine ⟨fun σ' H' => ∃ o', σ' = [some (.int x), some (.int y), some (.int r), some (.int (f.fmod r)), o'] ∧ H' = H2, ?_, ?_⟩
      · rintro σ' H' ⟨o', rfl, rfl⟩
        exact ⟨_, fmod_abs f h1', r, f.fmod r, _, rfl, rfl, (gcd_fmod f r).trans hg, hr, Int.fmod_nonneg_of_pos f (by omega), rfl⟩
      · exact ⟨_, rfl, _, rfl, _, _, rfl, rfl, h1', _, rfl, _, rfl, _, rfl, rfl⟩
    · have h1' : r = 0 := Decidable.byContradiction fun z => h1 (by simp [z])
      subst h1'
      refine ⟨_, rfl, ?_⟩
      rw [← hg, ← gcd_zero, if_neg (by omega)] at q
      exact q
noncomputable def sp_under (K : PySem.W.Frag) : Sp := fun vs H Q _ => ∃ (x y : Addr) (t b u c : Int), vs = [.ref x, .ref y] ∧ SqT K H x [.int t, .int b] ∧ SqT K H y [.int u, .int c] ∧ (0 < b ∧ 0 < c) ∧ (Bd 4000 t ∧ Bd 4000 b ∧ Bd 4000 u ∧ Bd 4000 c) ∧ Q (.bl (decide (t * c < u * b))) H
theorem sc_under : FnScope ["one", "other"] ["one", "other"] (defScope s_under) := ⟨rfl, rfl, rfl, by decide +kernel, rfl, by decide +kernel, by decide +kernel⟩
set_option maxHeartbeats 4000000 in
theorem ok_under (T : Tx K mg "under" s_under ["one", "other"]) (B : Bn mg) : Df P w K mg base 1 "under" ["one", "other"] (sp_under K) := by
  refine T.df sc_under (fun vs H Q E h => ?_) (fun f cdv A outer s H vs Q E hr h => ?_)
  · obtain ⟨x, y, t, b, u, c, rfl, hx, hy, ⟨hb, hc⟩, ⟨t1, t2, t3, t4⟩, q⟩ := h
    rfl
  · obtain ⟨x, y, t, b, u, c, rfl, hx, hy, ⟨hb, hc⟩, ⟨t1, t2, t3, t4⟩, q⟩ := h
    refine ⟨_, (pss_one (ps_ret (pe_cmpR op_lt (pe_op op_mulB (pe_ix ix_tup (pv 0) pe_int (fun _ _ => rfl)) (pe_ix ix_tup (pv 1) pe_int (fun _ _ => rfl))) (pe_op op_mulB (pe_ix ix_tup (pv 1) pe_int (fun _ _ => rfl)) (pe_ix ix_tup (pv 0) pe_int (fun _ _ => rfl))) (nomark _)))), ?_⟩
    have B20 : ∀ {z : Int}, Bd 4000 z → Bd 20000 z := fun h => h.mono (by decide)
    have hbc : 0 < b * c := Int.mul_pos hb hc
    have bdb : Bd 8000 (b * c) := t2.mul t4
    refine ⟨_, rfl, x, _, _, _, rfl, rfl, hx, (atI_nat (j := 0) rfl), _, rfl, y, _, _, _, rfl, rfl, hy, (atI_nat (j := 1) rfl), _, _, rfl, rfl, ⟨B20 t1, B20 t4⟩, _, rfl, y, _, _, _, rfl, rfl, hy, (atI_nat (j := 0) rfl), _, rfl, x, _, _, _, rfl, rfl, hx, (atI_nat (j := 1) rfl), _, _, rfl, rfl, ⟨B20 t3, B20 t2⟩, _, _, rfl, rfl, ?_⟩
    exact q
noncomputable def sp_is_name (K : PySem.W.Frag) : Sp := fun vs H Q _ => ∃ (v : V) (d : PyData), vs = [v] ∧ ThgE K H v d ∧ ∀ H', Same H H' → Q (.bl (nmD d)) H'
theorem sc_is_name : FnScope ["thing"] ["thing"] (defScope s_is_name) := ⟨rfl, rfl, rfl, by decide +kernel, rfl, by decide +kernel, by decide +kernel⟩
set_option maxHeartbeats 4000000 in
theorem ok_is_name (T : Tx K mg "is_name" s_is_name ["thing"]) (B : Bn mg) (g_LONGEST_NAME : ∃ t, mg "LONGEST_NAME" = some (.int 8 t)) (g_LETTERS : ∃ t, mg "LETTERS" = some (.str L2.LET t)) (b_all : mg "all" = none) : Df P w K mg base 1 "is_name" ["thing"] (sp_is_name K) := by
  refine T.df sc_is_name (fun vs H Q E h => ?_) (fun f cdv A outer s H vs Q E hr h => ?_)
  · obtain ⟨v, d, rfl, ⟨hd, ⟨n, ty⟩, th⟩, q⟩ := h
    rfl
  · obtain ⟨v, d, rfl, ⟨hd, ⟨n, ty⟩, th⟩, q⟩ := h
    refine ⟨_, (pss_cons (ps_if (pt_not (pt_val (pe_callB call_isi (by rfl) B.isinstance boot_isinstance (pa_cons (pv 0) (pa_cons (pe_bltn (x := "str") (v := .ty "str") (by rfl) B.str boot_str rfl) pa_nil))))) (pss_one (ps_ret pe_bl)) pss_nil)
      (pss_one (ps_ret (pe_and (pe_chain op_le op_le pe_int (pe_callB call_len_str (by rfl) B.len PySem.boot_len (pa_cons (pv 0) pa_nil)) (pe_glob (v := .int 8) (by rfl) g_LONGEST_NAME.choose_spec ⟨_, rfl⟩)) (pe_one (pe_callB (call_allL rfl) (by rfl) b_all (by decide +kernel) (pa_cons (pe_lcomp ["sign"] [] (clOf _ []) rfl (by rfl) rfl (by decide +kernel) (by decide +kernel) (clOf_cells (by rfl)) (kin_of (by rfl)) (fun p hp => by cases hp) (fun p hp => by cases hp) (wk_name (by decide)) (pi_str (pv 0)) (fun _ _ _ _ => pg_name (i := 0) (show (["sign"] : List Str).Nodup by decide +kernel) rfl (Or.inl rfl) (Or.inr rfl)) (fun _ _ _ _ => pifs_nil) (fun _ _ _ _ => (pe_cmpR op_in_str (pv 0) (pe_glob (v := .str LET) (by rfl) g_LETTERS.choose_spec ⟨_, rfl⟩) (by with_unfolding_all rfl)))) pa_nil))))))), ?_⟩
    have k1 := kit_str K ty
    refine ⟨_, rfl, _, _, _, _, rfl, ty, k1, _, rfl, ?_⟩
    cases hd with
    | str x =>
      obtain ⟨asc, lx⟩ := th.asc x rfl
      refine iteF ?_
      refine ⟨_, rfl, _, rfl, by have : (100 : Nat) ≤ sizeLine := by decide
                                 omega, _, _, rfl, rfl, _, rfl, ?_⟩
      have en : nmD (.str x) = (decide (1 ≤ (x.length : Int)) && decide ((x.length : Int) ≤ 8) && x.cps.toList.all letB) := rfl
      refine ite2 (fun h1 => ?_) (fun h1 => ?_)
      · refine ⟨_, _, rfl, rfl, _, rfl, ?_⟩
        refine ite2 (fun h2 => ?_) (fun h2 => ?_)
        · refine ⟨_, rfl, x, rfl, asc, fun A1 hA1 => ?_⟩
          refine compS (x := x) (fun i acc H2 => H2 = upd H A1 (.lst acc) ∧ acc = ((x.cps.toList.take i).map letB).map V.bl) ⟨rfl, rfl⟩ ?_ ?_
          · rintro i c acc H2 hi ⟨rfl, rfl⟩
            have hc : x.cps.toList[i]? = some c := by rw [Array.getElem?_toList]; exact hi
            have il : i < x.cps.size := by
              have := (List.getElem?_eq_some_iff.mp hc).1
              simpa using this
            have lx' : x.cps.size ≤ 100 := lx
            refine ⟨_, rfl, _, _, rfl, rfl, upd_same, small1000 (by rw [List.length_map, List.length_map, List.length_take]; omega), by rw [upd_upd], ?_⟩
            rw [List.take_add_one, hc, Option.toList_some, List.map_append, List.map_append]
            rfl
          · rintro acc H2 ⟨rfl, rfl⟩
            rw [show x.cps.size = x.cps.toList.length by simp, List.take_length]
            refine ⟨A1, _, rfl, .inl upd_same, ?_⟩
            rw [en, h1, h2, Bool.true_and, Bool.true_and] at q
            rw [List.all_map]
            exact q _ (Same.upd hA1)
        · rw [en, show decide ((x.length : Int) ≤ 8) = false from by simpa using h2, Bool.and_false, Bool.false_and] at q
          exact q _ (Same.refl _)
      · rw [en, show decide (1 ≤ (x.length : Int)) = false from by simpa using h1, Bool.false_and, Bool.false_and] at q
        exact ⟨_, rfl, iteF (q _ (Same.refl _))⟩
    | _ => exact iteT (q _ (Same.refl _))
noncomputable def sp_told_of (K : PySem.W.Frag) (mg : Str → Option Value) : Sp := fun vs H Q E => ∃ (d : Addr) (S : Sh), vs = [.ref d] ∧ ShD K H d S ∧ S.length < 63 ∧ (∀ ss, ss.Perm (S.map (·.1)) → sortedS ss = true → (¬ ∃ p ∈ toldS S ss, FIN < p.2.2) → ∀ l H', Same H H' → ShF K H' l (toldS S ss) → Q (.ref l) H') ∧ (∀ ss, ss.Perm (S.map (·.1)) → sortedS ss = true → (∃ p ∈ toldS S ss, FIN < p.2.2) → ∀ H', Same H H' → E (clsV mg "TooFine") none H')
theorem sc_told_of : FnScope ["held", "shares"] ["held"] (defScope s_told_of) := ⟨rfl, rfl, rfl, by decide +kernel, rfl, by decide +kernel, by decide +kernel⟩
set_option maxHeartbeats 4000000 in
theorem ok_told_of {C_TooFine : Addr} (T : Tx K mg "told_of" s_told_of ["held"]) (B : Bn mg) (g_FINEST : ∃ t, mg "FINEST" = some (.int 1000000000000000000000000000000000000000000000000000000000000 t)) (b_any : mg "any" = none) (z_TooFine : ExcCl K mg "TooFine" C_TooFine) (u_NONE : ∃ p, mg "NONE" = some (.ref p) ∧ ∀ H, SqT K H p [V.int 0, V.int 1]) : DfE P w K mg base 1 "told_of" ["held"] (sp_told_of K mg) := by
  obtain ⟨pu_NONE, gu_NONE, tu_NONE⟩ := u_NONE
  refine T.dfE sc_told_of (fun vs H Q E h => ?_) (fun f cdv A outer s H vs Q E hr h => ?_)
  · obtain ⟨d, S, rfl, hD, hz, q, qE⟩ := h
    rfl
  · obtain ⟨d, S, rfl, hD, hz, q, qE⟩ := h
    have hu := hr.units
    refine ⟨_, (pss_cons (ps_set (i := 1) sc_told_of.nd rfl (by first | exact Or.inl rfl | exact Or.inr rfl) (pe_callTy call_tupF (by rfl) B.tuple boot_tuple (pa_cons (pe_lcomp ["name"] [("held", 0)] (clOf _ ["held"]) rfl (by rfl) rfl (by decide +kernel) (by decide +kernel) (clOf_cells (by rfl)) (kin_of (by rfl)) (fun p hp => by
        cases hp with
        | head => exact ⟨rfl, rfl⟩
        | tail _ hp => exact (by cases hp)) (fun p hp => by
        cases hp with
        | head => exact rfl
        | tail _ hp => exact (by cases hp)) (wk_name (by decide)) (pi_list (pe_callB (call_srtDS rfl) (by rfl) B.sorted (by decide +kernel) (pa_cons (pv 0) pa_nil))) (fun _ _ _ _ => pg_name (i := 0) (show (["name", "held"] : List Str).Nodup by decide +kernel) rfl (Or.inl rfl) (Or.inr rfl)) (fun _ _ _ _ => pifs_one (pt_cmpR (op_neDK (K := K) rfl hu) (pe_dget (hu_of hr) (pv 1) (pv 0) (fun _ _ => rfl)) (pe_glob (v := .ref pu_NONE) (by rfl) gu_NONE rfl) (nomark _))) (fun _ _ _ _ => (pe_tup (pa_cons (pv 0) (pa_cons (pe_dget (hu_of hr) (pv 1) (pv 0) (fun _ _ => rfl)) pa_nil))))) pa_nil)))
      (pss_cons (ps_if (pt_val (pe_callB (call_anyL rfl) (by rfl) b_any (by decide +kernel) (pa_cons (pe_lcomp ["pair"] [] (clOf _ []) rfl (by rfl) rfl (by decide +kernel) (by decide +kernel) (clOf_cells (by rfl)) (kin_of (by rfl)) (fun p hp => by cases hp) (fun p hp => by cases hp) (wk_name (by decide)) (pi_tup (pv 1)) (fun _ _ _ _ => pg_name (i := 0) (show (["pair"] : List Str).Nodup by decide +kernel) rfl (Or.inl rfl) (Or.inr rfl)) (fun _ _ _ _ => pifs_nil) (fun _ _ _ _ => (pe_cmpR op_gt (pe_ix (ix_tupK (K := K) rfl) (pe_ix (ix_tupK (K := K) rfl) (pv 0) pe_int (fun _ _ => rfl)) pe_int (fun _ _ => rfl)) (pe_glob (v := .int FIN) (by rfl) g_FINEST.choose_spec ⟨_, rfl⟩) (nomark _)))) pa_nil))) (pss_one (ps_raise (W := fun H1 => E (.ref C_TooFine) none H1) z_TooFine rfl (pa_cons pe_str pa_nil) (fun _ _ _ _ _ _ _ I hx ee => xe_made I hx ee))) pss_nil)
      (pss_one (ps_ret (pv 1))))), ?_⟩
    obtain ⟨kvs, hd, r⟩ := hD
    rw [clsV_eq z_TooFine] at qE
    refine ⟨_, rfl, d, _, S.map (·.1), rfl, .inl hd, shv_names r, by rw [List.length_map]; omega, fun l2 ss hl2 pm so => ?_⟩
    have sl2 := Same.upd (o := .lst (ss.map V.str)) hl2
    have lss : ss.length < 63 := by rw [pm.length_eq, List.length_map]; exact hz
    refine ⟨l2, rfl, ⟨_, SqL.of upd_same⟩, fun D hD => ?_⟩
    have hl4 : upd H l2 (.lst (ss.map V.str)) l2 = some (.lst (ss.map V.str)) := upd_same
    have hd4 := sl2 _ _ hd
    have r4 := Paired.imp (fun _ _ => ShV.tk sl2.tk) r
    generalize (upd H l2 (.lst (ss.map V.str))) = H4 at sl2 hl4 hd4 hD r4 ⊢
    refine compL (K := K) (a := l2) (xs := ss.map V.str) (fun i acc H5 => Same H4 H5 ∧ H5 D = some (.lst acc) ∧ Paired (ShE K H5) acc (toldS S (ss.take i))) ⟨Same.upd hD, upd_same, .nil⟩ (fun i acc H5 _ ⟨e, _⟩ => SqL.of (e _ _ hl4)) ?_ ?_
    · rintro i y acc H5 hi5 ⟨s5, hD5, pr⟩
      obtain ⟨x, hx, rfl⟩ : ∃ x, ss[i]? = some x ∧ V.str x = y := by
        rw [List.getElem?_map] at hi5
        cases e : ss[i]? with
        | none => rw [e] at hi5; cases hi5
        | some x => rw [e] at hi5; exact ⟨x, rfl, Option.some.inj hi5⟩
      have hin : x ∈ S.map (·.1) := pm.mem_iff.mp (List.mem_of_getElem? hx)
      obtain ⟨p, hp, hq⟩ : ∃ p, valV kvs (Sum.inr x) = some (.ref p) ∧ SqT K H4 p [.int (shAt S x).1, .int (shAt S x).2] := by
        rcases shv_val (x := x) r4 with ⟨h1, h2⟩ | ⟨p, f, h1, h2, h3⟩
        · have := List.find?_eq_none.mp h2 _ (shAt_mem hin)
          simp at this
        · have e : shAt S x = f.2 := by unfold shAt; rw [h2]; rfl
          exact ⟨p, h1, by rw [e]; exact h3⟩
      have hd5 := s5 _ _ hd4
      have hq5 := s5.tup hq
      have dg : DGet H5 d (.str x) (some (.ref p)) := by rw [← hp]; exact DGet.k (k := Sum.inr x) hd5
      refine ⟨_, rfl, _, rfl, d, _, rfl, dg, _, _, IsD.tup hq5 (isDs2 _ _), IsD.tup (tu_NONE _) (isDs2 _ _), rfl, rfl, by show 1 ≤ 50; decide, _, rfl, ?_⟩
      rw [eqv_fr]
      have lacc : acc.length < sizeLine := by
        rw [Paired.length pr]
        have := told_len S (ss.take i)
        rw [List.length_take] at this
        exact small1000 (by omega)
      refine ite2 (fun h1 => ?_) (fun h1 => ?_)
      · have hne : ¬ shAt S x = (0, 1) := fun z => by
          rw [decide_eq_true (show ((shAt S x).1, (shAt S x).2) = ((0 : Int), (1 : Int)) from z)] at h1
          exact absurd h1 (by decide)
        refine ⟨_, rfl, _, rfl, _, rfl, d, _, rfl, dg, len_ok rfl, fun r1 hr1 => ?_⟩
        have sr := Same.upd (o := .tup [.str x, .ref p]) hr1
        refine ⟨sr _ _ hD5, lacc, ?_, upd_same, ?_⟩
        · intro b o e
          rw [upd_ne (fun z => by rw [z, hD] at e; cases e)]
          exact sr _ _ (s5 _ _ e)
        · rw [toldS_snoc hx, if_neg hne]
          have tk2 := TK.lst (o := .lst (acc ++ [.ref r1])) (sr _ _ hD5)
          exact Paired.app (Paired.imp (fun _ _ z => (z.same sr).tk tk2) pr) (.cons (ShE.tk tk2 ⟨r1, p, rfl, SqT.of upd_same, sr.tup hq5⟩) .nil)
      · have he : shAt S x = (0, 1) := Decidable.byContradiction fun z => h1 (by rw [decide_eq_false (show ¬ ((shAt S x).1, (shAt S x).2) = ((0 : Int), (1 : Int)) from z)]; rfl)
        refine ⟨s5, hD5, ?_⟩
        rw [toldS_snoc hx, if_pos he, List.append_nil]
        exact pr
    · rintro acc H5 ⟨s5, hD5, pr⟩
      rw [List.length_map, List.take_length] at pr
      refine ⟨D, _, rfl, SqL.of hD5, fun l ob hl pl => ?_⟩
      have sl := Same.upd (o := .frz ob (.tup acc)) hl
      have hF : ShF K (upd H5 l (.frz ob (.tup acc))) l (toldS S ss) := ⟨ob, acc, pl, upd_same, Paired.imp (fun _ _ z => z.same sl) pr⟩
      have s6 := sl2.trans (s5.trans sl)
      clear sl pr hD5 s5
      generalize (upd H5 l (.frz ob (.tup acc))) = H6 at hF s6 ⊢
      obtain ⟨vs, hv, rv⟩ := hF.t
      refine ⟨_, rfl, l, rfl, ⟨_, hv⟩, fun D2 hD2 => ?_⟩
      have sD : ∀ o : HO, Same H6 (upd H6 D2 o) := fun o => Same.upd hD2
      have lv : vs.length = (toldS S ss).length := Paired.length rv
      have lt := told_len S ss
      refine compT (K := K) (a := l) (xs := vs) (fun i acc H7 => H7 = upd H6 D2 (.lst acc) ∧ acc = (((toldS S ss).take i).map fun p => decide (FIN < p.2.2)).map V.bl) ⟨rfl, rfl⟩ (fun i acc H7 _ ⟨e, _⟩ => by rw [e]; exact (sD _).tup hv) ?_ ?_
      · rintro i y acc H7 hi7 ⟨rfl, rfl⟩
        obtain ⟨p, hp, r1, q1, rfl, h1, h2⟩ := paired_at rv hi7
        refine ⟨_, rfl, r1, _, _, _, rfl, rfl, (sD _).tup h1, (atI_nat (j := 1) rfl), q1, _, _, _, rfl, rfl, (sD _).tup h2, (atI_nat (j := 1) rfl), _, _, rfl, rfl, upd_same, ?_, ?_, ?_⟩
        · rw [List.length_map, List.length_map, List.length_take]
          exact small1000 (by omega)
        · rw [upd_upd]
        · rw [List.take_add_one, hp]
          simp
      · rintro acc H7 ⟨rfl, rfl⟩
        rw [lv, List.take_length]
        refine ⟨D2, _, rfl, .inl upd_same, _, rfl, ?_⟩
        have s7 := s6.trans (sD (.lst (((toldS S ss).map fun p => decide (FIN < p.2.2)).map V.bl)))
        refine ite2 (fun h1 => ?_) (fun h1 => ?_)
        · refine ⟨len_ok rfl, qE ss pm so ?_ _ s7⟩
          rw [List.any_map, List.any_eq_true] at h1
          obtain ⟨p, hp, h2⟩ := h1
          exact ⟨p, hp, of_decide_eq_true h2⟩
        · refine ⟨_, rfl, q ss pm so (fun ⟨p, hp, h2⟩ => h1 ?_) _ _ s7 (hF.tk (sD _).tk)⟩
          rw [List.any_map, List.any_eq_true]
          exact ⟨p, hp, decide_eq_true h2⟩
noncomputable def sp_share_of (K : PySem.W.Frag) : Sp := fun vs H Q _ => ∃ (a : Addr) (S : Sh) (x : Str), vs = [.ref a, .str x] ∧ ShT K H a S ∧ ∀ p, SqT K H p [.int (shAt S x).1, .int (shAt S x).2] → Q (.ref p) H
theorem sc_share_of : FnScope ["shares", "name", "pair"] ["shares", "name"] (defScope s_share_of) := ⟨rfl, rfl, rfl, by decide +kernel, rfl, by decide +kernel, by decide +kernel⟩
set_option maxHeartbeats 4000000 in
theorem ok_share_of (T : Tx K mg "share_of" s_share_of ["shares", "name"]) (B : Bn mg) (u_NONE : ∃ p, mg "NONE" = some (.ref p) ∧ ∀ H, SqT K H p [V.int 0, V.int 1]) : Df P w K mg base 1 "share_of" ["shares", "name"] (sp_share_of K) := by
  obtain ⟨pu_NONE, gu_NONE, tu_NONE⟩ := u_NONE
  refine T.df sc_share_of (fun vs H Q E h => ?_) (fun f cdv A outer s H vs Q E hr h => ?_)
  · obtain ⟨a, S, x, rfl, hA, q⟩ := h
    rfl
  · obtain ⟨a, S, x, rfl, hA, q⟩ := h
    refine ⟨_, (pss_cons (ps_for PassesOwn.never rfl (pi_tup (pv 0)) (pg_name (i := 2) sc_share_of.nd rfl (by first | exact Or.inl rfl | exact Or.inr rfl)) (pss_one (ps_if (pt_cmpR op_eq (pe_ix ix_tup (pv 2) pe_int (fun _ _ => rfl)) (pv 1) (nomark _)) (pss_one (ps_ret (pe_ix ix_tup (pv 2) pe_int (fun _ _ => rfl)))) pss_nil)))
      (pss_one (ps_ret (pe_glob (v := .ref pu_NONE) (by rfl) gu_NONE rfl)))), ?_⟩
    obtain ⟨vs, ha, r⟩ := hA
    refine ⟨_, rfl, a, rfl, ⟨_, ha⟩, for_tup (K := K) (a := a) (xs := vs) (fun i σ H2 => ∃ o2 : Option V, σ = [some (.ref a), some (.str x), o2] ∧ H2 = H ∧ shAt S x = shAt (S.drop i) x) ⟨none, rfl, rfl, rfl⟩ (fun i σ H2 _ ⟨_, _, e, _⟩ => by rw [e]; exact ha) ?_ ?_⟩
    · rintro i y σ H2 hi ⟨o2, rfl, rfl, hat⟩
      obtain ⟨p, hp, r1, q1, rfl, h1, h2⟩ := paired_at r hi
      rw [drop_at hp, shAt_cons] at hat
      refine ⟨_, rfl, r1, _, _, _, rfl, rfl, h1, (atI_nat (j := 0) rfl), _, rfl, rfl, _, rfl, ?_⟩
      refine ite2 (fun h3 => ?_) (fun h3 => ?_)
      · have e : p.1 = x := V.str.inj (of_decide_eq_true h3)
        rw [if_pos e] at hat
        refine ⟨_, rfl, r1, _, _, _, rfl, rfl, h1, (atI_nat (j := 1) rfl), ?_⟩
        exact q q1 (by rw [hat]; exact h2)
      · have e : ¬ p.1 = x := fun z => h3 (by rw [z, decide_eq_true rfl])
        rw [if_neg e] at hat
        exact ⟨_, rfl, rfl, hat⟩
    · rintro σ H2 ⟨o2, rfl, rfl, hat⟩
      have e : S.drop vs.length = [] := by rw [List.drop_eq_nil_iff, Paired.length r]; exact Nat.le_refl _
      rw [e, shAt_nil] at hat
      refine q pu_NONE ?_
      rw [hat]
      exact tu_NONE _
noncomputable def sp_law_cell (K : PySem.W.Frag) : Sp := fun vs H Q _ => ∃ (a : Addr) (ns : List Int) (k : Nat) (m : Int), vs = [.ref a, .int k, .int m] ∧ SqL K H a (ns.map V.int) ∧ k ≤ 1000000 ∧ 0 < m ∧ Q (.int (cellV ns k m)) H
theorem sc_law_cell : FnScope ["_law_script", "_law_k", "_law_many", "_law_number"] ["_law_script", "_law_k", "_law_many"] (defScope s_law_cell) := ⟨rfl, rfl, rfl, by decide +kernel, rfl, by decide +kernel, by decide +kernel⟩
set_option maxHeartbeats 4000000 in
theorem ok_law_cell (T : Tx K mg "_law_cell" s_law_cell ["_law_script", "_law_k", "_law_many"]) (B : Bn mg) : Df P w K mg base 1 "_law_cell" ["_law_script", "_law_k", "_law_many"] (sp_law_cell K) := by
  refine T.df sc_law_cell (fun vs H Q E h => ?_) (fun f cdv A outer s H vs Q E hr h => ?_)
  · obtain ⟨a, ns, k, m, rfl, hS, hk, hm, q⟩ := h
    rfl
  · obtain ⟨a, ns, k, m, rfl, hS, hk, hm, q⟩ := h
    refine ⟨_, (pss_cons (ps_if (pt_cmpR op_lt (pv 1) (pe_callB call_len_seq (by rfl) B.len PySem.boot_len (pa_cons (pv 0) pa_nil)) (nomark _)) (pss_one (ps_ret (pe_op op_mod (pe_ix ix_list (pv 0) (pv 1) (fun _ _ => rfl)) (pv 2)))) pss_nil)
      (pss_cons (ps_set (i := 3) sc_law_cell.nd rfl (by first | exact Or.inl rfl | exact Or.inr rfl) pe_int)
      (pss_consE (ps_if (pt_cmpR op_gt (pe_callB call_len_seq (by rfl) B.len PySem.boot_len (pa_cons (pv 0) pa_nil)) pe_int (nomark _)) (pss_one (ps_set (i := 3) sc_law_cell.nd rfl (by first | exact Or.inl rfl | exact Or.inr rfl) (pe_op op_mod (pe_ix ix_list (pv 0) (pe_op op_mod (pv 1) (pe_callB call_len_seq (by rfl) B.len PySem.boot_len (pa_cons (pv 0) pa_nil))) (fun _ _ => rfl)) pe_int))) pss_nil)
      (pss_one (ps_ret (pe_op op_mod (pe_op op_mod (pe_op op_add (pe_op op_mul (pv 3) pe_int) (pe_op op_mul (pe_op op_mul (pe_op op_add (pv 1) pe_int) (pe_op op_add (pv 1) pe_int)) pe_int)) pe_int) (pv 2))))))), ?_⟩
    have hlen : (ns.map V.int).length = ns.length := List.length_map ..
    refine ⟨_, rfl, _, rfl, a, _, rfl, .inl hS, _, _, rfl, rfl, _, rfl, ?_⟩
    refine ite2 (fun h1 => ?_) (fun h1 => ?_)
    · have h1' : k < ns.length := by
        have := of_decide_eq_true h1
        rw [hlen] at this
        omega
      refine ⟨_, rfl, _, rfl, a, _, _, _, rfl, rfl, hS, atI_nat (show (ns.map V.int)[k]? = some (.int (ns.getD k 0)) by simp [h1', List.getD]), _, rfl, _, _, rfl, rfl, hm, ?_⟩
      have e : cellV ns k m = ns.getD k 0 % m := by unfold cellV; rw [if_pos h1']
      rw [e] at q
      exact q
    · have h1' : ¬ k < ns.length := fun z => h1 (by
        rw [decide_eq_true_eq, hlen]
        omega)
      have e : cellV ns k m = ((if 0 < ns.length then ns.getD (k % ns.length) 0 % 2147483647 else 5) * 48271 + ((k : Int) + 3) * ((k : Int) + 7) * 69621) % 2147483629 % m := by unfold cellV; rw [if_neg h1']
      rw [e] at q
      refine ⟨fun σ' H' => σ' = [some (.ref a), some (.int k), some (.int m), some (.int (if 0 < ns.length then ns.getD (k % ns.length) 0 % 2147483647 else 5))] ∧ H' = H, ?_, ?_⟩
      · refine ⟨_, rfl, a, _, rfl, .inl hS, _, _, rfl, rfl, _, rfl, ?_⟩
        refine ite2 (fun h2 => ?_) (fun h2 => ?_)
        · have h2' : 0 < ns.length := by
            have := of_decide_eq_true h2
            rw [hlen] at this
            omega
          have hk2 : k % ns.length < ns.length := Nat.mod_lt _ h2'
          have hat : atI (ns.map V.int) ((k : Int) % ((ns.map V.int).length : Int)) = some (.int (ns.getD (k % ns.length) 0)) := by
            rw [hlen]
            exact atI_nat (j := k % ns.length) (show (ns.map V.int)[k % ns.length]? = some (.int (ns.getD (k % ns.length) 0)) by simp [hk2, List.getD])
          refine ⟨_, rfl, _, rfl, _, rfl, a, _, rfl, .inl hS, _, _, rfl, rfl, (by rw [hlen]; omega), a, _, _, _, rfl, rfl, hS, hat, _, _, rfl, rfl, (by show (0 : Int) < _; decide), ?_⟩
          exact ⟨by rw [if_pos h2']; rfl, rfl⟩
        · have h2' : ¬ 0 < ns.length := fun z => h2 (by
            rw [decide_eq_true_eq, hlen]
            omega)
          exact ⟨by rw [if_neg h2']; rfl, rfl⟩
      · rintro σ' H' ⟨rfl, rfl⟩
        refine ⟨_, rfl, _, _, rfl, rfl, .inr ⟨by decide, by decide⟩, _, rfl, _, _, rfl, rfl, _, rfl, _, _, rfl, rfl, _, _, rfl, rfl, .inl ⟨by omega, by omega⟩, _, _, rfl, rfl, .inr ⟨by decide, by decide⟩, _, _, rfl, rfl, _, _, rfl, rfl, (by show (0 : Int) < _; decide), _, rfl, _, _, rfl, rfl, hm, ?_⟩
        exact q
noncomputable def sp_law_whole (K : PySem.W.Frag) : Sp := fun vs H Q _ => ∃ (x : V) (n : String), vs = [x] ∧ TyOf K H x (.type n) ∧ Q (.bl (isI x)) H
theorem sc_law_whole : FnScope ["_law_found"] ["_law_found"] (defScope s_law_whole) := ⟨rfl, rfl, rfl, by decide +kernel, rfl, by decide +kernel, by decide +kernel⟩
set_option maxHeartbeats 4000000 in
theorem ok_law_whole (T : Tx K mg "_law_whole" s_law_whole ["_law_found"]) (B : Bn mg) : Df P w K mg base 1 "_law_whole" ["_law_found"] (sp_law_whole K) := by
  refine T.df sc_law_whole (fun vs H Q E h => ?_) (fun f cdv A outer s H vs Q E hr h => ?_)
  · obtain ⟨x, n, rfl, ty, q⟩ := h
    rfl
  · obtain ⟨x, n, rfl, ty, q⟩ := h
    refine ⟨_, (pss_one (ps_ret (pe_and (pe_callB call_isi (by rfl) B.isinstance boot_isinstance (pa_cons (pv 0) (pa_cons (pe_bltn (x := "int") (v := .ty "int") (by rfl) B.int boot_int rfl) pa_nil))) (pe_one (pe_not (pe_callB call_isi (by rfl) B.isinstance boot_isinstance (pa_cons (pv 0) (pa_cons (pe_bltn (x := "bool") (v := .ty "bool") (by rfl) B.bool boot_bool rfl) pa_nil)))))))), ?_⟩
    have k1 := kit_int K ty
    have k2 := kit_bool K ty
    refine ⟨_, rfl, _, _, _, _, rfl, ty, k1, _, rfl, ?_⟩
    refine ite2 (fun h1 => ?_) (fun h1 => ?_)
    · refine ⟨_, rfl, _, _, _, _, rfl, ty, k2, _, rfl, ?_⟩
      cases x <;> simp_all [isI, isB]
    · cases x <;> simp_all [isI, isB]
noncomputable def sp_law_divisor (K : PySem.W.Frag) : Sp := fun vs H Q _ => ∃ (x y : Int), vs = [.int x, .int y] ∧ Q (.int (Int.gcd x y : Nat)) H
theorem sc_law_divisor : FnScope ["_law_one", "_law_other"] ["_law_one", "_law_other"] (defScope s_law_divisor) := ⟨rfl, rfl, rfl, by decide +kernel, rfl, by decide +kernel, by decide +kernel⟩
set_option maxHeartbeats 4000000 in
theorem ok_law_divisor (T : Tx K mg "_law_divisor" s_law_divisor ["_law_one", "_law_other"]) (B : Bn mg) (b_abs : mg "abs" = none) : Df P w K mg base 1 "_law_divisor" ["_law_one", "_law_other"] (sp_law_divisor K) := by
  refine T.df sc_law_divisor (fun vs H Q E h => ?_) (fun f cdv A outer s H vs Q E hr h => ?_)
  · obtain ⟨x, y, rfl, q⟩ := h
    rfl
  · obtain ⟨x, y, rfl, q⟩ := h
    refine ⟨_, (pss_cons (ps_while PassesOwn.never (pt_cmpR op_ne (pv 1) pe_int (nomark _)) (pss_one (ps_par (i := 0) (j := 1) rfl sc_law_divisor.nd rfl rfl (by decide) rfl rfl (pa_cons (pv 1) (pa_cons (pe_op op_modN (pv 0) (pv 1)) pa_nil)) rfl)))
      (pss_one (ps_ret (pe_callB call_abs (by rfl) b_abs boot_abs (pa_cons (pv 0) pa_nil))))), ?_⟩
    refine ⟨fun m σ H2 => ∃ x2 y2, σ = [some (.int x2), some (.int y2)] ∧ H2 = H ∧ Int.gcd x2 y2 = Int.gcd x y ∧ m = y2.natAbs, ⟨_, x, y, rfl, rfl, rfl, rfl⟩, ?_⟩
    rintro m σ H2 ⟨x2, y2, rfl, rfl, hg, rfl⟩
    refine ⟨_, rfl, rfl, _, rfl, ?_⟩
    refine ite2 (fun h1 => ?_) (fun h1 => ?_)
    · have h1' : y2 ≠ 0 := by
        intro z
        rw [z] at h1
        revert h1
        decide
      refine ⟨fun σ' H' => σ' = [some (.int y2), some (.int (x2.fmod y2))] ∧ H' = H2, ?_, ?_⟩
      · rintro σ' H' ⟨rfl, rfl⟩
        exact ⟨_, fmod_abs x2 h1', y2, x2.fmod y2, rfl, rfl, (gcd_fmod x2 y2).trans hg, rfl⟩
      · exact ⟨_, rfl, _, rfl, _, rfl, _, _, rfl, rfl, h1', _, _, rfl, rfl, rfl⟩
    · have h1' : y2 = 0 := Decidable.byContradiction fun z => h1 (by simp [z])
      subst h1'
      refine ⟨_, rfl, _, rfl, ?_⟩
      rw [gcd_zero, hg]
      exact q
noncomputable def sp_law_names (K : PySem.W.Frag) : Sp := fun vs H Q _ => ∃ c : Int, vs = [.int c] ∧ ∀ (l : Addr) (ss : List Str), H l = none → ss.length = 8 → (∀ s ∈ ss, IsNm s) → Q (.ref l) (upd H l (.lst (ss.map V.str)))
theorem sc_law_names : FnScope ["_law_cell_here", "_law_letters", "_law_sign", "_law_at", "_law_names_here", "_law_k", "_law_name"] ["_law_cell_here"] (defScope s_law_names) := ⟨rfl, rfl, rfl, by decide +kernel, rfl, by decide +kernel, by decide +kernel⟩
set_option maxHeartbeats 4000000 in
theorem ok_law_names (T : Tx K mg "_law_names" s_law_names ["_law_cell_here"]) (B : Bn mg) : Df P w K mg base 1 "_law_names" ["_law_cell_here"] (sp_law_names K) := by
  refine T.df sc_law_names (fun vs H Q E h => ?_) (fun f cdv A outer s H vs Q E hr h => ?_)
  · obtain ⟨c, rfl, q⟩ := h
    rfl
  · obtain ⟨c, rfl, q⟩ := h
    refine ⟨_, (pss_cons (ps_set (i := 1) sc_law_names.nd rfl (by first | exact Or.inl rfl | exact Or.inr rfl) pe_str)
      (pss_cons (ps_set (i := 2) sc_law_names.nd rfl (by first | exact Or.inl rfl | exact Or.inr rfl) (pe_ix ix_str (pv 1) (pe_op op_mod (pe_op op_fdiv (pv 0) pe_int) pe_int) (fun _ _ => rfl)))
      (pss_cons (ps_set (i := 3) sc_law_names.nd rfl (by first | exact Or.inl rfl | exact Or.inr rfl) (pe_op op_mod (pv 0) pe_int))
      (pss_cons (ps_set (i := 4) sc_law_names.nd rfl (by first | exact Or.inl rfl | exact Or.inr rfl) (pe_lst pa_nil))
      (pss_cons (ps_for PassesOwn.never rfl (pi_range1 (by rfl) B.range (pa_cons pe_int pa_nil)) (pg_name (i := 5) sc_law_names.nd rfl (by first | exact Or.inl rfl | exact Or.inr rfl)) (pss_one (ps_if (pt_cmpR op_eq (pe_op op_mod (pe_op op_fdiv (pv 0) pe_int) pe_int) pe_int (nomark _)) (pss_one (ps_expr (pe_bm PySem.F.plainAttrs_list PySem.F.slot_list_append PySem.F.type_list_append mt_append (pv 4) (pa_cons (pe_op op_mulS (pv 2) (pe_op op_add pe_int (pv 5))) pa_nil)))) (pss_cons (ps_set (i := 6) sc_law_names.nd rfl (by first | exact Or.inl rfl | exact Or.inr rfl) (pe_op op_add_str (pe_op op_add_str (pe_op op_mulS (pv 2) (pv 3)) (pe_ix ix_str (pv 1) (pe_op op_mod (pe_op op_add (pe_op op_add (pe_op op_fdiv (pv 0) pe_int) pe_int) (pv 5)) pe_int) (fun _ _ => rfl))) (pe_op op_mulS (pv 2) pe_int)))
      (pss_one (ps_expr (pe_bm PySem.F.plainAttrs_list PySem.F.slot_list_append PySem.F.type_list_append mt_append (pv 4) (pa_cons (pe_slice sl_str (pv 6) po_none (po_some (pe_op op_add (pe_op op_add (pv 3) pe_int) (pe_op op_mod (pe_op op_fdiv (pv 0) pe_int) (pe_op op_sub pe_int (pv 3)))))) pa_nil))))))))
      (pss_one (ps_ret (pv 4)))))))), ?_⟩
    obtain ⟨c0, hc0, l0⟩ := letter_at (i := c / 8 % 26) (Int.emod_nonneg _ (by decide)) (Int.emod_lt_of_pos _ (by decide))
    have a0 := Int.emod_nonneg c (show (8 : Int) ≠ 0 by decide)
    have a1 := Int.emod_lt_of_pos c (show (0 : Int) < 8 by decide)
    have sg : AllL ⟨#[c0]⟩ := AllL.one l0
    have sl : (⟨#[c0]⟩ : Str).length = 1 := rfl
    have z7 : sizeLine ≥ 1000 := by decide
    refine ⟨_, rfl, _, rfl, _, _, rfl, rfl, ⟨by decide, by decide⟩, _, _, rfl, rfl, (by show (0 : Int) < _; decide), _, _, c0, rfl, rfl, by decide, hc0, ?_⟩
    refine ⟨_, rfl, _, _, rfl, rfl, (by show (0 : Int) < _; decide), len_ok rfl, fun l hl => ?_⟩
    refine ⟨8, rfl, by decide, by decide, for_range (n := 8) (lo := 0) (fun i σ H2 => ∃ (o5 o6 : Option V) (ss : List Str), σ = [some (.int c), some (.str (Str.ofString "abcdefghijklmnopqrstuvwxyz")), some (.str ⟨#[c0]⟩), some (.int (c % 8)), some (.ref l), o5, o6] ∧ H2 = upd H l (.lst (ss.map V.str)) ∧ ss.length = i ∧ ∀ s ∈ ss, IsNm s)
      ⟨none, none, [], rfl, rfl, rfl, fun _ z => nomatch z⟩ ?_ ?_⟩
    · rintro i σ H2 hi ⟨o5, o6, ss, rfl, rfl, hs, hn⟩
      have up : ∀ (x : Str), IsNm x → ∀ s ∈ ss ++ [x], IsNm s := fun x hx s h => by
        rcases List.mem_append.mp h with z | z
        · exact hn s z
        · rw [List.mem_singleton] at z
          subst z
          exact hx
      have lt : (ss.map V.str).length < sizeLine := by rw [List.length_map]; omega
      refine ⟨_, rfl, _, _, rfl, rfl, ⟨by decide, by decide⟩, _, _, rfl, rfl, (by show (0 : Int) < _; decide), rfl, _, rfl, ?_⟩
      refine ite2 (fun h1 => ?_) (fun h1 => ?_)
      · refine ⟨_, rfl, .inl ⟨rfl, _, SqL.of upd_same⟩, _, rfl, _, rfl, _, _, rfl, rfl, _, _, rfl, rfl, by omega, by omega, by rw [sl]; decide, l, _, _, rfl, rfl, upd_same, lt, ?_⟩
        refine ⟨_, _, ss ++ [repS ⟨#[c0]⟩ (1 + (0 + (i : Int))).toNat], rfl, ?_, by rw [List.length_append, hs]; rfl, up _ ⟨sg.rep _, ?_, ?_⟩⟩
        · rw [upd_upd, List.map_append]; rfl
        · rw [repS_len, sl]; omega
        · rw [repS_len, sl]; omega
      · obtain ⟨c1, hc1, l1⟩ := letter_at (i := (c / 8 + 1 + (0 + (i : Int))) % 26) (Int.emod_nonneg _ (by decide)) (Int.emod_lt_of_pos _ (by decide))
        have e1 : (repS ⟨#[c0]⟩ (c % 8).toNat).length = (c % 8).toNat := by rw [repS_len, sl, Nat.one_mul]
        have e2 : (repS ⟨#[c0]⟩ (7 : Int).toNat).length = 7 := by rw [repS_len, sl]; rfl
        have e3 : (⟨#[c1]⟩ : Str).length = 1 := rfl
        have e4 : (repS ⟨#[c0]⟩ (c % 8).toNat ++ ⟨#[c1]⟩).length = (c % 8).toNat + 1 := by rw [app_len, e1, e3]
        have e5 : (repS ⟨#[c0]⟩ (c % 8).toNat ++ ⟨#[c1]⟩ ++ repS ⟨#[c0]⟩ (7 : Int).toNat).length = (c % 8).toNat + 1 + 7 := by rw [app_len, e4, e2]
        have b0 := Int.emod_nonneg (c / 624) (show (8 - c % 8 : Int) ≠ 0 by omega)
        have b1 := Int.emod_lt_of_pos (c / 624) (show (0 : Int) < 8 - c % 8 by omega)
        refine ⟨_, rfl, _, rfl, _, _, rfl, rfl, a0, by omega, by rw [sl]; decide, _, rfl, _, rfl, _, _, rfl, rfl, ⟨by decide, by decide⟩, _, _, rfl, rfl, _, rfl, _, _, rfl, rfl, _, _, rfl, rfl, (by show (0 : Int) < _; decide), _, _, c1, rfl, rfl, by decide, hc1, _, _, rfl, rfl, by rw [e1, e3]; omega, ?_⟩
        refine ⟨_, rfl, _, _, rfl, rfl, by decide, by decide, by rw [sl]; decide, _, _, rfl, rfl, by rw [e4, e2]; omega, ?_⟩
        refine ⟨_, rfl, .inl ⟨rfl, _, SqL.of upd_same⟩, _, rfl, _, rfl, _, _, rfl, rfl, _, rfl, _, _, rfl, rfl, ⟨by decide, by decide⟩, _, rfl, _, _, rfl, rfl, _, _, rfl, rfl, (by show (0 : Int) < 8 - c % 8; omega), _, _, rfl, rfl, _, rfl, _, rfl, by rw [e5]; omega, l, _, _, rfl, rfl, upd_same, lt, ?_⟩
        have sn := slice_len (repS ⟨#[c0]⟩ (c % 8).toNat ++ ⟨#[c1]⟩ ++ repS ⟨#[c0]⟩ (7 : Int).toNat) (j := c % 8 + 1 + c / 624 % (8 - c % 8)) (by omega)
        rw [e5] at sn
        refine ⟨_, _, ss ++ [Txt.slice (repS ⟨#[c0]⟩ (c % 8).toNat ++ ⟨#[c1]⟩ ++ repS ⟨#[c0]⟩ (7 : Int).toNat) none (some (c % 8 + 1 + c / 624 % (8 - c % 8)))], rfl, ?_, by rw [List.length_append, hs]; rfl, up _ ⟨(((sg.rep _).app (AllL.one l1)).app (sg.rep _)).slice _ _, ?_, ?_⟩⟩
        · rw [upd_upd, List.map_append]; rfl
        · rw [sn]; omega
        · rw [sn]; omega
    · rintro σ H2 ⟨o5, o6, ss, rfl, rfl, hs, hn⟩
      exact ⟨_, rfl, q l ss hl hs hn⟩
noncomputable def sp_law_plus (K : PySem.W.Frag) : Sp := fun vs H Q _ => ∃ (x y : Addr) (t b u c g : Int), vs = [.ref x, .ref y, .int g] ∧ SqT K H x [.int t, .int b] ∧ SqT K H y [.int u, .int c] ∧ (Bd 3000 t ∧ Bd 3000 b ∧ Bd 3000 u ∧ Bd 3000 c) ∧ (g = 1 ∨ g = -1) ∧ ∀ l, H l = none → Q (.ref l) (upd H l (.tup [.int (t * c + g * u * b), .int (b * c)]))
theorem sc_law_plus : FnScope ["_law_one", "_law_other", "_law_sign"] ["_law_one", "_law_other", "_law_sign"] (defScope s_law_plus) := ⟨rfl, rfl, rfl, by decide +kernel, rfl, by decide +kernel, by decide +kernel⟩
set_option maxHeartbeats 4000000 in
theorem ok_law_plus (T : Tx K mg "_law_plus" s_law_plus ["_law_one", "_law_other", "_law_sign"]) (B : Bn mg) : Df P w K mg base 1 "_law_plus" ["_law_one", "_law_other", "_law_sign"] (sp_law_plus K) := by
  refine T.df sc_law_plus (fun vs H Q E h => ?_) (fun f cdv A outer s H vs Q E hr h => ?_)
  · obtain ⟨x, y, t, b, u, c, g, rfl, hx, hy, ⟨B1, B2, B3, B4⟩, hg, q⟩ := h
    rfl
  · obtain ⟨x, y, t, b, u, c, g, rfl, hx, hy, ⟨B1, B2, B3, B4⟩, hg, q⟩ := h
    refine ⟨_, (pss_one (ps_ret (pe_tup (pa_cons (pe_op op_add (pe_op op_mulB (pe_ix ix_tup (pv 0) pe_int (fun _ _ => rfl)) (pe_ix ix_tup (pv 1) pe_int (fun _ _ => rfl))) (pe_op op_mulB (pe_op op_mul (pv 2) (pe_ix ix_tup (pv 1) pe_int (fun _ _ => rfl))) (pe_ix ix_tup (pv 0) pe_int (fun _ _ => rfl)))) (pa_cons (pe_op op_mulB (pe_ix ix_tup (pv 0) pe_int (fun _ _ => rfl)) (pe_ix ix_tup (pv 1) pe_int (fun _ _ => rfl))) pa_nil))))), ?_⟩
    have Bg : Bd 3001 (g * u) := by
      rcases hg with z | z
      · rw [z, Int.one_mul]; exact B3.mono (by decide)
      · rw [z]
        refine Bd.of ?_
        have := (B3.mono (n := 3001) (by decide)).lt
        rw [show (-1 : Int) * u = -u by omega, Int.natAbs_neg]
        exact this
    refine ⟨_, rfl, x, _, _, _, rfl, rfl, hx, (atI_nat (j := 0) rfl), _, rfl, y, _, _, _, rfl, rfl, hy, (atI_nat (j := 1) rfl), _, _, rfl, rfl, ⟨B1.mono (by decide), B4.mono (by decide)⟩, ?_⟩
    refine ⟨_, rfl, _, rfl, y, _, _, _, rfl, rfl, hy, (atI_nat (j := 0) rfl), _, _, rfl, rfl, .inl (by rcases hg with z | z <;> rw [z] <;> exact ⟨by decide, by decide⟩), ?_⟩
    refine ⟨_, rfl, x, _, _, _, rfl, rfl, hx, (atI_nat (j := 1) rfl), _, _, rfl, rfl, ⟨Bg.mono (by decide), B2.mono (by decide)⟩, _, _, rfl, rfl, ?_⟩
    exact ⟨_, rfl, x, _, _, _, rfl, rfl, hx, (atI_nat (j := 1) rfl), _, rfl, y, _, _, _, rfl, rfl, hy, (atI_nat (j := 1) rfl), _, _, rfl, rfl, ⟨B2.mono (by decide), B4.mono (by decide)⟩, len_ok rfl, fun l hl => q l hl⟩
noncomputable def sp_law_under (K : PySem.W.Frag) : Sp := fun vs H Q _ => ∃ (x y : Addr) (t b u c : Int), vs = [.ref x, .ref y] ∧ SqT K H x [.int t, .int b] ∧ SqT K H y [.int u, .int c] ∧ (Bd 3000 t ∧ Bd 3000 b ∧ Bd 3000 u ∧ Bd 3000 c) ∧ Q (.bl (decide (t * c < u * b))) H
theorem sc_law_under : FnScope ["_law_one", "_law_other"] ["_law_one", "_law_other"] (defScope s_law_under) := ⟨rfl, rfl, rfl, by decide +kernel, rfl, by decide +kernel, by decide +kernel⟩
set_option maxHeartbeats 4000000 in
theorem ok_law_under (T : Tx K mg "_law_under" s_law_under ["_law_one", "_law_other"]) (B : Bn mg) : Df P w K mg base 1 "_law_under" ["_law_one", "_law_other"] (sp_law_under K) := by
  refine T.df sc_law_under (fun vs H Q E h => ?_) (fun f cdv A outer s H vs Q E hr h => ?_)
  · obtain ⟨x, y, t, b, u, c, rfl, hx, hy, ⟨B1, B2, B3, B4⟩, q⟩ := h
    rfl
  · obtain ⟨x, y, t, b, u, c, rfl, hx, hy, ⟨B1, B2, B3, B4⟩, q⟩ := h
    refine ⟨_, (pss_one (ps_ret (pe_cmpR op_lt (pe_op op_mulB (pe_ix ix_tup (pv 0) pe_int (fun _ _ => rfl)) (pe_ix ix_tup (pv 1) pe_int (fun _ _ => rfl))) (pe_op op_mulB (pe_ix ix_tup (pv 1) pe_int (fun _ _ => rfl)) (pe_ix ix_tup (pv 0) pe_int (fun _ _ => rfl))) (nomark _)))), ?_⟩
    exact ⟨_, rfl, x, _, _, _, rfl, rfl, hx, (atI_nat (j := 0) rfl), _, rfl, y, _, _, _, rfl, rfl, hy, (atI_nat (j := 1) rfl), _, _, rfl, rfl, ⟨B1.mono (by decide), B4.mono (by decide)⟩, _, rfl, y, _, _, _, rfl, rfl, hy, (atI_nat (j := 0) rfl), _, rfl, x, _, _, _, rfl, rfl, hx, (atI_nat (j := 1) rfl), _, _, rfl, rfl, ⟨B3.mono (by decide), B2.mono (by decide)⟩, _, _, rfl, rfl, q⟩
noncomputable def sp_law_alike (K : PySem.W.Frag) : Sp := fun vs H Q _ => ∃ (a d : Addr) (R U : Sh), vs = [.ref a, .ref d] ∧ ShT K H a R ∧ ShD K H d U ∧ U.length < 60 ∧ UOk 6000 U ∧ (∀ ss, ss.Perm (U.map (·.1)) → sortedS ss = true → R = (toldP U ss).map redP) ∧ ∀ H', Same H H' → Q (.bl true) H'
theorem sc_law_alike : FnScope ["_law_pairs", "_law_due", "_law_one", "_law_other"] ["_law_pairs", "_law_due"] (defScope s_law_alike) := ⟨rfl, rfl, rfl, by decide +kernel, rfl, by decide +kernel, by decide +kernel⟩
set_option maxHeartbeats 4000000 in
theorem ok_law_alike (T : Tx K mg "_law_alike" s_law_alike ["_law_pairs", "_law_due"]) (B : Bn mg) (b_zip : mg "zip" = none) : Df P w K mg base 1 "_law_alike" ["_law_pairs", "_law_due"] (sp_law_alike K) := by
  refine T.df sc_law_alike (fun vs H Q E h => ?_) (fun f cdv A outer s H vs Q E hr h => ?_)
  · obtain ⟨a, d, R, U, rfl, hA, hD, hz, hU, hR, q⟩ := h
    rfl
  · obtain ⟨a, d, R, U, rfl, hA, hD, hz, hU, hR, q⟩ := h
    have hu := hr.units
    refine ⟨_, (pss_cons (ps_set (i := 1) sc_law_alike.nd rfl (by first | exact Or.inl rfl | exact Or.inr rfl) (pe_lcomp ["_law_name"] [("_law_due", 1)] (clOf _ ["_law_due"]) rfl (by rfl) rfl (by decide +kernel) (by decide +kernel) (clOf_cells (by rfl)) (kin_of (by rfl)) (fun p hp => by
        cases hp with
        | head => exact ⟨rfl, rfl⟩
        | tail _ hp => exact (by cases hp)) (fun p hp => by
        cases hp with
        | head => exact rfl
        | tail _ hp => exact (by cases hp)) (wk_name (by decide)) (pi_list (pe_callB (call_srtDS rfl) (by rfl) B.sorted (by decide +kernel) (pa_cons (pv 1) pa_nil))) (fun _ _ _ _ => pg_name (i := 0) (show (["_law_name", "_law_due"] : List Str).Nodup by decide +kernel) rfl (Or.inl rfl) (Or.inr rfl)) (fun _ _ _ _ => pifs_one (pt_cmpR op_gt (pe_ix (ix_tupK (K := K) rfl) (pe_dget (hu_of hr) (pv 1) (pv 0) (fun _ _ => rfl)) pe_int (fun _ _ => rfl)) pe_int (nomark _))) (fun _ _ _ _ => (pe_tup (pa_cons (pv 0) (pa_cons (pe_dget (hu_of hr) (pv 1) (pv 0) (fun _ _ => rfl)) pa_nil))))))
      (pss_cons (ps_if ((pw_or (pt_not (pt_val (pe_callB call_isT (by rfl) B.isinstance boot_isinstance (pa_cons (pv 0) (pa_cons (pe_bltn (x := "tuple") (v := .ty "tuple") (by rfl) B.tuple boot_tuple rfl) pa_nil))))) (pw_or1 (pt_cmpR op_ne (pe_callB call_len_seq (by rfl) B.len PySem.boot_len (pa_cons (pv 0) pa_nil)) (pe_callB call_len_seq (by rfl) B.len PySem.boot_len (pa_cons (pv 1) pa_nil)) (nomark _)))).pt) (pss_one (ps_ret pe_bl)) pss_nil)
      (pss_cons (ps_for PassesOwn.never rfl (pi_zip (by rfl) b_zip (pa_cons (pv 0) (pa_cons (pv 1) pa_nil))) (pg_tup rfl (pgs_cons (pg_name (i := 2) sc_law_alike.nd rfl (by first | exact Or.inl rfl | exact Or.inr rfl)) (pgs_cons (pg_name (i := 3) sc_law_alike.nd rfl (by first | exact Or.inl rfl | exact Or.inr rfl)) pgs_nil))) (pss_one (ps_if ((pw_or (pt_cmpR op_ne (pe_ix ix_tup (pv 2) pe_int (fun _ _ => rfl)) (pe_ix ix_tup (pv 3) pe_int (fun _ _ => rfl)) (nomark _)) (pw_or1 (pt_cmpR op_ne (pe_op op_mulB (pe_ix ix_tup (pe_ix ix_tup (pv 2) pe_int (fun _ _ => rfl)) pe_int (fun _ _ => rfl)) (pe_ix ix_tup (pe_ix ix_tup (pv 3) pe_int (fun _ _ => rfl)) pe_int (fun _ _ => rfl))) (pe_op op_mulB (pe_ix ix_tup (pe_ix ix_tup (pv 3) pe_int (fun _ _ => rfl)) pe_int (fun _ _ => rfl)) (pe_ix ix_tup (pe_ix ix_tup (pv 2) pe_int (fun _ _ => rfl)) pe_int (fun _ _ => rfl))) (nomark _)))).pt) (pss_one (ps_ret pe_bl)) pss_nil)))
      (pss_one (ps_ret pe_bl))))), ?_⟩
    obtain ⟨kvs, hd, r⟩ := id hD
    obtain ⟨xs, ha, ra⟩ := id hA
    have lx := ShT.len (a := a) ra
    refine ⟨_, rfl, d, _, U.map (·.1), rfl, .inl hd, shv_names r, by rw [List.length_map]; omega, fun l2 ss hl2 pm so => ?_⟩
    have sl2 := Same.upd (o := .lst (ss.map V.str)) hl2
    have lss : ss.length < 60 := by rw [pm.length_eq, List.length_map]; exact hz
    refine ⟨l2, rfl, ⟨_, SqL.of upd_same⟩, fun D hD => ?_⟩
    have hl4 : upd H l2 (.lst (ss.map V.str)) l2 = some (.lst (ss.map V.str)) := upd_same
    have hd4 := sl2 _ _ hd
    have r4 := Paired.imp (fun _ _ => ShV.tk sl2.tk) r
    have hR' := hR ss pm so
    generalize (upd H l2 (.lst (ss.map V.str))) = H4 at sl2 hl4 hd4 hD r4 ⊢
    refine compL (K := K) (a := l2) (xs := ss.map V.str) (fun i acc H5 => Same H4 H5 ∧ H5 D = some (.lst acc) ∧ Paired (ShE K H5) acc (toldP U (ss.take i))) ⟨Same.upd hD, upd_same, .nil⟩ (fun i acc H5 _ ⟨e, _⟩ => SqL.of (e _ _ hl4)) ?_ ?_
    · rintro i y acc H5 hi5 ⟨s5, hD5, pr⟩
      obtain ⟨x, hx, rfl⟩ : ∃ x, ss[i]? = some x ∧ V.str x = y := by
        rw [List.getElem?_map] at hi5
        cases e : ss[i]? with
        | none => rw [e] at hi5; cases hi5
        | some x => rw [e] at hi5; exact ⟨x, rfl, Option.some.inj hi5⟩
      have hin : x ∈ U.map (·.1) := pm.mem_iff.mp (List.mem_of_getElem? hx)
      obtain ⟨p, hp, hq⟩ := sh_in r4 hin
      have hd5 := s5 _ _ hd4
      have hq5 := s5.tup hq
      have dg : DGet H5 d (.str x) (some (.ref p)) := by rw [← hp]; exact DGet.k (k := Sum.inr x) hd5
      have lacc : acc.length < sizeLine := by
        rw [Paired.length pr]
        have := toldP_len U (ss.take i)
        rw [List.length_take] at this
        exact small1000 (by omega)
      refine ⟨_, rfl, _, rfl, d, _, rfl, dg, p, _, _, _, rfl, rfl, hq5, (atI_nat (j := 0) rfl), _, _, rfl, rfl, _, rfl, ?_⟩
      rw [toldP_snoc hx]
      refine ite2 (fun h1 => ?_) (fun h1 => ?_)
      · refine ⟨_, rfl, _, rfl, _, rfl, d, _, rfl, dg, len_ok rfl, fun r1 hr1 => ?_⟩
        have sr := Same.upd (o := .tup [.str x, .ref p]) hr1
        refine ⟨sr _ _ hD5, lacc, ?_, upd_same, ?_⟩
        · intro b o e
          rw [upd_ne (fun z => by rw [z, hD] at e; cases e)]
          exact sr _ _ (s5 _ _ e)
        · rw [if_pos (of_decide_eq_true h1)]
          have tk2 := TK.lst (o := .lst (acc ++ [.ref r1])) (sr _ _ hD5)
          exact Paired.app (Paired.imp (fun _ _ z => (z.same sr).tk tk2) pr) (.cons (ShE.tk tk2 ⟨r1, p, rfl, SqT.of upd_same, sr.tup hq5⟩) .nil)
      · refine ⟨s5, hD5, ?_⟩
        rw [if_neg (fun z => h1 (decide_eq_true z)), List.append_nil]
        exact pr
    · rintro acc H5 ⟨s5, hD5, pr⟩
      rw [List.length_map, List.take_length] at pr
      have s05 := sl2.trans s5
      have la : acc.length = (toldP U ss).length := Paired.length pr
      have lr : xs.length = acc.length := by rw [lx, hR', List.length_map, la]
      have ha5 := s05.tup ha
      refine ⟨_, rfl, _, _, a, _, _, _, rfl, rfl, ha5, rfl, (fun _ h => h), kit_tt K, _, rfl, iteF ?_⟩
      refine ⟨_, rfl, a, _, rfl, .inr ha5, _, rfl, D, _, rfl, .inl (SqL.of hD5), rfl, _, rfl, ?_⟩
      rw [decide_eq_true (show V.int ((xs.length : Nat) : Int) = V.int ((acc.length : Nat) : Int) by rw [lr])]
      refine iteF ?_
      refine ⟨_, rfl, _, rfl, a, D, rfl, ⟨_, ha5⟩, ⟨_, SqL.of hD5⟩, for_zip (K := K) (a := a) (l := D) (xs := xs) (ys := acc) lr (fun i σ H6 => ∃ o2 o3 : Option V, σ = [some (.ref a), some (.ref D), o2, o3] ∧ Same H5 H6) ⟨none, none, rfl, Same.refl _⟩ (fun i σ H6 _ ⟨_, _, _, e⟩ => ⟨e.tup ha5, SqL.of (e _ _ hD5)⟩) ?_ ?_⟩
      · rintro i x y σ H6 T hx hy hT ⟨o2, o3, rfl, s6⟩
        obtain ⟨m, hm, r1, q1, rfl, h1', h2'⟩ := paired_at ra hx
        obtain ⟨n, hn, r2, q2, rfl, h3', h4'⟩ := paired_at pr hy
        have sT := Same.upd (o := .tup [.ref r1, .ref r2]) hT
        have s56 := s6.trans sT
        have h1 := (s05.trans s56).tup h1'
        have h2 := (s05.trans s56).tup h2'
        have h3 := s56.tup h3'
        have h4 := s56.tup h4'
        have em : m = redP n := by
          rw [hR', List.getElem?_map, hn] at hm
          exact (Option.some.inj hm).symm
        have np : n.2 = shAt U n.1 := (toldP_mem (List.mem_of_getElem? hn)).2
        have ub := hU.at (by decide) n.1
        rw [← np] at ub
        obtain ⟨u0, u1, u2⟩ := ub
        have fb : Bd 6000 m.2.1 ∧ Bd 6000 m.2.2 := by rw [em]; exact ⟨Bd.frT u1, Bd.frB u2⟩
        refine ⟨T, _, rfl, SqT.of upd_same, rfl, _, _, rfl, _, _, rfl, rfl, ?_⟩
        refine ⟨_, rfl, r1, _, _, _, rfl, rfl, h1, (atI_nat (j := 0) rfl), _, rfl, r2, _, _, _, rfl, rfl, h3, (atI_nat (j := 0) rfl), rfl, _, rfl, ?_⟩
        rw [decide_eq_true (show V.str m.1 = V.str n.1 by rw [em]; rfl)]
        refine iteF ?_
        refine ⟨_, rfl, r1, _, _, _, rfl, rfl, h1, (atI_nat (j := 1) rfl), q1, _, _, _, rfl, rfl, h2, (atI_nat (j := 0) rfl), _, rfl, r2, _, _, _, rfl, rfl, h3, (atI_nat (j := 1) rfl), q2, _, _, _, rfl, rfl, h4, (atI_nat (j := 1) rfl), _, _, rfl, rfl, ⟨fb.1.mono (by decide), u2.mono (by decide)⟩, _, rfl, r2, _, _, _, rfl, rfl, h3, (atI_nat (j := 1) rfl), q2, _, _, _, rfl, rfl, h4, (atI_nat (j := 0) rfl), _, rfl, r1, _, _, _, rfl, rfl, h1, (atI_nat (j := 1) rfl), q1, _, _, _, rfl, rfl, h2, (atI_nat (j := 1) rfl), _, _, rfl, rfl, ⟨u1.mono (by decide), fb.2.mono (by decide)⟩, rfl, _, rfl, ?_⟩
        rw [decide_eq_true (show V.int (m.2.1 * n.2.2) = V.int (n.2.1 * m.2.2) by rw [em]; exact congrArg V.int (cross_red u0))]
        refine iteF ?_
        exact ⟨_, _, rfl, s56⟩
      · rintro σ H6 ⟨o2, o3, rfl, s6⟩
        exact q _ (s05.trans s6)
noncomputable def sp_in_lowest_terms (K : PySem.W.Frag) : Sp := fun vs H Q _ => ∃ (t b : Int), vs = [.int t, .int b] ∧ b ≠ 0 ∧ Bd 8000 b ∧ ∀ l p q, IsFr t b p q → H l = none → Q (.ref l) (upd H l (.tup [.int p, .int q]))
theorem sc_in_lowest_terms : FnScope ["top", "bottom", "divisor"] ["top", "bottom"] (defScope s_in_lowest_terms) := ⟨rfl, rfl, rfl, by decide +kernel, rfl, by decide +kernel, by decide +kernel⟩
set_option maxHeartbeats 4000000 in
theorem ok_in_lowest_terms (T : Tx K mg "in_lowest_terms" s_in_lowest_terms ["top", "bottom"]) (B : Bn mg) (d_common_divisor : Df P w K mg base 1 "common_divisor" ["one", "other"] (sp_common_divisor K)) : Df P w K mg base 2 "in_lowest_terms" ["top", "bottom"] (sp_in_lowest_terms K) := by
  refine T.df sc_in_lowest_terms (fun vs H Q E h => ?_) (fun f cdv A outer s H vs Q E hr h => ?_)
  · obtain ⟨t, b, rfl, hb, bd, q⟩ := h
    rfl
  · obtain ⟨t, b, rfl, hb, bd, q⟩ := h
    refine ⟨_, (pss_cons (ps_set (i := 2) sc_in_lowest_terms.nd rfl (by first | exact Or.inl rfl | exact Or.inr rfl) (pe_df d_common_divisor hr (pa_cons (pv 0) (pa_cons (pv 1) pa_nil))))
      (pss_consE (ps_if (pt_cmpR op_lt (pv 1) pe_int (nomark _)) (pss_one (ps_set (i := 2) sc_in_lowest_terms.nd rfl (by first | exact Or.inl rfl | exact Or.inr rfl) (pe_un un_neg (pv 2)))) pss_nil)
      (pss_one (ps_ret (pe_tup (pa_cons (pe_op op_fdivBN (pv 0) (pv 2)) (pa_cons (pe_op op_fdivBN (pv 1) (pv 2)) pa_nil))))))), ?_⟩
    have hm0 : (if b < 0 then -(Int.gcd t b : Int) else (Int.gcd t b : Int)) ≠ 0 := by
      have := Int.gcd_pos_of_ne_zero_right t hb
      split <;> omega
    have bdm : Bd 8999 (if b < 0 then -(Int.gcd t b : Int) else (Int.gcd t b : Int)) := by
      have := (Bd.gcd (t := t) bd hb).mono (n := 8999) (by decide)
      split
      · exact this.neg
      · exact this
    refine ⟨_, rfl, _, rfl, t, b, rfl, ?_⟩
    refine ⟨fun σ' H' => σ' = [some (.int t), some (.int b), some (.int (if b < 0 then -(Int.gcd t b : Int) else (Int.gcd t b : Int)))] ∧ H' = H, ?_, ?_⟩
    · refine ⟨_, rfl, _, _, rfl, rfl, _, rfl, ?_⟩
      refine ite2 (fun h1 => ?_) (fun h1 => ?_)
      · have h1' : b < 0 := of_decide_eq_true h1
        rw [if_pos h1']
        exact ⟨_, rfl, _, rfl, rfl, rfl⟩
      · have h1' : ¬ b < 0 := fun z => h1 (decide_eq_true z)
        rw [if_neg h1']
        exact ⟨rfl, rfl⟩
    · rintro σ' H' ⟨rfl, rfl⟩
      exact ⟨_, rfl, _, rfl, _, _, rfl, rfl, ⟨hm0, bdm⟩, _, rfl, _, rfl, _, _, rfl, rfl, ⟨hm0, bdm⟩, len_ok rfl, fun l hl => q l _ _ (isFr_made hb rfl) hl⟩
noncomputable def sp_lesser (K : PySem.W.Frag) : Sp := fun vs H Q _ => ∃ (x y : Addr) (t b u c : Int), vs = [.ref x, .ref y] ∧ SqT K H x [.int t, .int b] ∧ SqT K H y [.int u, .int c] ∧ (0 < b ∧ 0 < c) ∧ (Bd 4000 t ∧ Bd 4000 b ∧ Bd 4000 u ∧ Bd 4000 c) ∧ ∀ p, SqT K H p [.int (lessF (t, b) (u, c)).1, .int (lessF (t, b) (u, c)).2] → Q (.ref p) H
theorem sc_lesser : FnScope ["one", "other"] ["one", "other"] (defScope s_lesser) := ⟨rfl, rfl, rfl, by decide +kernel, rfl, by decide +kernel, by decide +kernel⟩
set_option maxHeartbeats 4000000 in
theorem ok_lesser (T : Tx K mg "lesser" s_lesser ["one", "other"]) (B : Bn mg) (d_under : Df P w K mg base 1 "under" ["one", "other"] (sp_under K)) : Df P w K mg base 2 "lesser" ["one", "other"] (sp_lesser K) := by
  refine T.df sc_lesser (fun vs H Q E h => ?_) (fun f cdv A outer s H vs Q E hr h => ?_)
  · obtain ⟨x, y, t, b, u, c, rfl, hx, hy, ⟨hb, hc⟩, ⟨t1, t2, t3, t4⟩, q⟩ := h
    rfl
  · obtain ⟨x, y, t, b, u, c, rfl, hx, hy, ⟨hb, hc⟩, ⟨t1, t2, t3, t4⟩, q⟩ := h
    refine ⟨_, (pss_cons (ps_if (pt_val (pe_df d_under hr (pa_cons (pv 1) (pa_cons (pv 0) pa_nil)))) (pss_one (ps_ret (pv 1))) pss_nil)
      (pss_one (ps_ret (pv 0)))), ?_⟩
    refine ⟨_, rfl, _, rfl, y, x, u, c, t, b, rfl, hy, hx, ⟨hc, hb⟩, ⟨t3, t4, t1, t2⟩, _, rfl, ?_⟩
    refine ite2 (fun h1 => ?_) (fun h1 => ?_)
    · refine ⟨_, rfl, q y ?_⟩
      have e : lessF (t, b) (u, c) = (u, c) := if_pos (of_decide_eq_true h1)
      rw [e]
      exact hy
    · refine ⟨_, rfl, q x ?_⟩
      have e : lessF (t, b) (u, c) = (t, b) := if_neg fun z => h1 (decide_eq_true z)
      rw [e]
      exact hx
noncomputable def sp_law_fraction (K : PySem.W.Frag) : Sp := fun vs H Q _ => ∃ (t b : Int), vs = [.int t, .int b] ∧ 0 < b ∧ Bd 8000 b ∧ ∀ l, H l = none → Q (.ref l) (upd H l (.tup [.int (frT t b), .int (frB t b)]))
theorem sc_law_fraction : FnScope ["_law_top", "_law_bottom", "_law_many"] ["_law_top", "_law_bottom"] (defScope s_law_fraction) := ⟨rfl, rfl, rfl, by decide +kernel, rfl, by decide +kernel, by decide +kernel⟩
set_option maxHeartbeats 4000000 in
theorem ok_law_fraction (T : Tx K mg "_law_fraction" s_law_fraction ["_law_top", "_law_bottom"]) (B : Bn mg) (d_law_divisor : Df P w K mg base 1 "_law_divisor" ["_law_one", "_law_other"] (sp_law_divisor K)) : Df P w K mg base 2 "_law_fraction" ["_law_top", "_law_bottom"] (sp_law_fraction K) := by
  refine T.df sc_law_fraction (fun vs H Q E h => ?_) (fun f cdv A outer s H vs Q E hr h => ?_)
  · obtain ⟨t, b, rfl, hb, bd, q⟩ := h
    rfl
  · obtain ⟨t, b, rfl, hb, bd, q⟩ := h
    refine ⟨_, (pss_cons (ps_set (i := 2) sc_law_fraction.nd rfl (by first | exact Or.inl rfl | exact Or.inr rfl) (pe_df d_law_divisor hr (pa_cons (pv 0) (pa_cons (pv 1) pa_nil))))
      (pss_one (ps_ret (pe_tup (pa_cons (pe_op op_fdivB (pv 0) (pv 2)) (pa_cons (pe_op op_fdivB (pv 1) (pv 2)) pa_nil)))))), ?_⟩
    have g := gcd_posR (t := t) hb
    have lg : ((Int.gcd t b : Nat) : Int).natAbs.log2 < 9000 := (Bd.gcd (t := t) bd (by omega)).log2 (by decide)
    refine ⟨_, rfl, _, rfl, t, b, rfl, _, rfl, _, rfl, _, _, rfl, rfl, ⟨g, lg⟩, _, rfl, _, rfl, _, _, rfl, rfl, ⟨g, lg⟩, len_ok rfl, fun l hl => ?_⟩
    exact q l hl
noncomputable def sp_law_good (K : PySem.W.Frag) : Sp := fun vs H Q _ => ∃ (a : Addr) (S : Sh) (ss : List Str), vs = [.ref a] ∧ ShT K H a S ∧ GS ss S ∧ ss.length = 8 ∧ (∀ p ∈ S, PyData.canLay0 (.str p.1) = true) ∧ ∀ H', Same H H' → Q (.bl true) H'
theorem sc_law_good : FnScope ["_law_shares", "_law_total", "_law_one", "_law_names_here"] ["_law_shares"] (defScope s_law_good) := ⟨rfl, rfl, rfl, by decide +kernel, rfl, by decide +kernel, by decide +kernel⟩
set_option maxHeartbeats 4000000 in
theorem ok_law_good (T : Tx K mg "_law_good" s_law_good ["_law_shares"]) (B : Bn mg) (d_law_plus : Df P w K mg base 1 "_law_plus" ["_law_one", "_law_other", "_law_sign"] (sp_law_plus K)) (d_law_whole : Df P w K mg base 1 "_law_whole" ["_law_found"] (sp_law_whole K)) : Df P w K mg base 2 "_law_good" ["_law_shares"] (sp_law_good K) := by
  refine T.df sc_law_good (fun vs H Q E h => ?_) (fun f cdv A outer s H vs Q E hr h => ?_)
  · obtain ⟨a, S, ss, rfl, hA, hG, h8, hl, q⟩ := h
    rfl
  · obtain ⟨a, S, ss, rfl, hA, hG, h8, hl, q⟩ := h
    have hu := hr.units
    refine ⟨_, (pss_cons (ps_if (pt_not (pt_val (pe_callB call_isT (by rfl) B.isinstance boot_isinstance (pa_cons (pv 0) (pa_cons (pe_bltn (x := "tuple") (v := .ty "tuple") (by rfl) B.tuple boot_tuple rfl) pa_nil))))) (pss_one (ps_ret pe_bl)) pss_nil)
      (pss_cons (ps_set (i := 1) sc_law_good.nd rfl (by first | exact Or.inl rfl | exact Or.inr rfl) (pe_tup (pa_cons pe_int (pa_cons pe_int pa_nil))))
      (pss_cons (ps_for PassesOwn.never rfl (pi_tup (pv 0)) (pg_name (i := 2) sc_law_good.nd rfl (by first | exact Or.inl rfl | exact Or.inr rfl)) (pss_cons (ps_if ((pw_or (pt_not (pt_val (pe_callB call_isT (by rfl) B.isinstance boot_isinstance (pa_cons (pv 2) (pa_cons (pe_bltn (x := "tuple") (v := .ty "tuple") (by rfl) B.tuple boot_tuple rfl) pa_nil))))) (pw_or (pt_cmpR op_ne (pe_callB call_len_seq (by rfl) B.len PySem.boot_len (pa_cons (pv 2) pa_nil)) pe_int (nomark _)) (pw_or1 (pt_not (pt_val (pe_callB call_isi (by rfl) B.isinstance boot_isinstance (pa_cons (pe_ix ix_tup (pv 2) pe_int (fun _ _ => rfl)) (pa_cons (pe_bltn (x := "str") (v := .ty "str") (by rfl) B.str boot_str rfl) pa_nil)))))))).pt) (pss_one (ps_ret pe_bl)) pss_nil)
      (pss_cons (ps_if ((pw_or (pt_not (pt_val (pe_callB call_isT (by rfl) B.isinstance boot_isinstance (pa_cons (pe_ix ix_tup (pv 2) pe_int (fun _ _ => rfl)) (pa_cons (pe_bltn (x := "tuple") (v := .ty "tuple") (by rfl) B.tuple boot_tuple rfl) pa_nil))))) (pw_or (pt_cmpR op_ne (pe_callB call_len_seq (by rfl) B.len PySem.boot_len (pa_cons (pe_ix ix_tup (pv 2) pe_int (fun _ _ => rfl)) pa_nil)) pe_int (nomark _)) (pw_or1 (pt_not (pt_val (pe_df d_law_whole hr (pa_cons (pe_ix ix_tup (pe_ix ix_tup (pv 2) pe_int (fun _ _ => rfl)) pe_int (fun _ _ => rfl)) pa_nil))))))).pt) (pss_one (ps_ret pe_bl)) pss_nil)
      (pss_cons (ps_if ((pw_or (pt_not (pt_val (pe_df d_law_whole hr (pa_cons (pe_ix ix_tup (pe_ix ix_tup (pv 2) pe_int (fun _ _ => rfl)) pe_int (fun _ _ => rfl)) pa_nil)))) (pw_or (pt_cmpR op_lt (pe_ix ix_tup (pe_ix ix_tup (pv 2) pe_int (fun _ _ => rfl)) pe_int (fun _ _ => rfl)) pe_int (nomark _)) (pw_or (pt_cmpR op_lt (pe_ix ix_tup (pe_ix ix_tup (pv 2) pe_int (fun _ _ => rfl)) pe_int (fun _ _ => rfl)) pe_int (nomark _)) (pw_or1 (pt_cmpR op_gt (pe_ix ix_tup (pe_ix ix_tup (pv 2) pe_int (fun _ _ => rfl)) pe_int (fun _ _ => rfl)) (pe_op op_pow pe_int pe_int) (nomark _)))))).pt) (pss_one (ps_ret pe_bl)) pss_nil)
      (pss_one (ps_set (i := 1) sc_law_good.nd rfl (by first | exact Or.inl rfl | exact Or.inr rfl) (pe_df d_law_plus hr (pa_cons (pv 1) (pa_cons (pe_ix ix_tup (pv 2) pe_int (fun _ _ => rfl)) (pa_cons pe_int pa_nil))))))))))
      (pss_cons (ps_setC (i := 3) sc_law_good.nd rfl (by first | exact Or.inl rfl | exact Or.inr rfl) ["_law_one"] [] (clOf _ []) rfl (by rfl) rfl (by decide +kernel) (by decide +kernel) (clOf_cells (by rfl)) (kin_of (by rfl)) (fun p hp => by cases hp) (fun p hp => by cases hp) (wk_name (by decide)) (pi_tup (pv 0)) (fun _ _ _ _ => pg_name (i := 0) (show (["_law_one"] : List Str).Nodup by decide +kernel) rfl (Or.inl rfl) (Or.inr rfl)) (fun _ _ _ _ => pifs_nil) (fun _ _ _ _ => (pe_ix (ix_tupK (K := K) rfl) (pv 0) pe_int (fun _ _ => rfl))))
      (pss_one (ps_ret (pe_and (pe_cmpR op_eq (pe_ix ix_tup (pv 1) pe_int (fun _ _ => rfl)) (pe_ix ix_tup (pv 1) pe_int (fun _ _ => rfl)) (nomark _)) (pe_and (pe_cmpR (op_eqD hu) (pv 3) (pe_callB call_srtS (by rfl) B.sorted (by decide +kernel) (pa_cons (pv 3) pa_nil)) (nomark _)) (pe_one (pe_cmpR op_eq (pe_callB call_len_setN (by rfl) B.len PySem.boot_len (pa_cons (pe_callTy (call_setOfT rfl) (by rfl) B.set boot_set (pa_cons (pv 3) pa_nil)) pa_nil)) (pe_callB call_len_seq (by rfl) B.len PySem.boot_len (pa_cons (pv 3) pa_nil)) (nomark _))))))))))), ?_⟩
    obtain ⟨xs, ha, r⟩ := id hA
    have lx := ShT.len (a := a) r
    have ln := hG.len
    refine ⟨_, rfl, _, _, a, _, _, _, rfl, rfl, ha, rfl, (fun _ h => h), kit_tt K, _, rfl, iteF ?_⟩
    refine ⟨len_ok rfl, fun l0 hl0 => ?_⟩
    have s0 := Same.upd (o := .tup [.int 0, .int 1]) hl0
    refine ⟨_, rfl, a, rfl, ⟨_, s0.tup ha⟩, for_tup (K := K) (a := a) (xs := xs) (fun i σ H2 => ∃ (p : Addr) (o2 : Option V), σ = [some (.ref a), some (.ref p), o2, none] ∧ Same H H2 ∧ SqT K H2 p [.int (sumU ((S.map (·.2)).take i)).1, .int (sumU ((S.map (·.2)).take i)).2]) ⟨l0, none, rfl, s0, SqT.of upd_same⟩ (fun i σ H2 _ ⟨_, _, _, e, _⟩ => e.tup ha) ?_ ?_⟩
    · rintro i y σ H2 hi ⟨p, o2, rfl, s2, hp2⟩
      obtain ⟨m, hm, r1, q1, rfl, h1', h2'⟩ := paired_at r hi
      have h1 := s2.tup h1'
      have h2 := s2.tup h2'
      have il : i < 8 := by
        have := (List.getElem?_eq_some_iff.mp hm).1
        omega
      have mem := List.mem_of_getElem? hm
      have mo := hG.ok m mem
      have mf := hG.fin m mem
      have mb := hG.bd mem
      have sb := su_bd hG (i := i) (by omega)
      refine ⟨_, rfl, _, _, r1, _, _, _, rfl, rfl, h1, rfl, (fun _ h => h), kit_tt K, _, rfl, iteF ?_⟩
      refine ⟨_, rfl, r1, _, rfl, .inr h1, rfl, _, rfl, iteF ?_⟩
      refine ⟨_, rfl, r1, _, _, _, rfl, rfl, h1, (atI_nat (j := 0) rfl), _, _, _, _, rfl, TyOf.str _, kit_ss K, _, rfl, iteF ?_⟩
      refine ⟨_, rfl, r1, _, _, _, rfl, rfl, h1, (atI_nat (j := 1) rfl), _, _, q1, _, _, _, rfl, rfl, h2, rfl, (fun _ h => h), kit_tt K, _, rfl, iteF ?_⟩
      refine ⟨_, rfl, r1, _, _, _, rfl, rfl, h1, (atI_nat (j := 1) rfl), q1, _, rfl, .inr h2, rfl, _, rfl, iteF ?_⟩
      refine ⟨_, rfl, r1, _, _, _, rfl, rfl, h1, (atI_nat (j := 1) rfl), q1, _, _, _, rfl, rfl, h2, (atI_nat (j := 0) rfl), _, "int", rfl, TyOf.int _, _, rfl, iteF ?_⟩
      refine ⟨_, rfl, r1, _, _, _, rfl, rfl, h1, (atI_nat (j := 1) rfl), q1, _, _, _, rfl, rfl, h2, (atI_nat (j := 1) rfl), _, "int", rfl, TyOf.int _, _, rfl, iteF ?_⟩
      refine ⟨_, rfl, r1, _, _, _, rfl, rfl, h1, (atI_nat (j := 1) rfl), q1, _, _, _, rfl, rfl, h2, (atI_nat (j := 0) rfl), _, _, rfl, rfl, _, rfl, ?_⟩
      rw [decide_eq_false (show ¬ m.2.1 < 1 by omega)]
      refine iteF ?_
      refine ⟨_, rfl, r1, _, _, _, rfl, rfl, h1, (atI_nat (j := 1) rfl), q1, _, _, _, rfl, rfl, h2, (atI_nat (j := 1) rfl), _, _, rfl, rfl, _, rfl, ?_⟩
      rw [decide_eq_false (show ¬ m.2.2 < 1 by have := mo.1.pos; omega)]
      refine iteF ?_
      refine ⟨_, rfl, r1, _, _, _, rfl, rfl, h1, (atI_nat (j := 1) rfl), q1, _, _, _, rfl, rfl, h2, (atI_nat (j := 1) rfl), _, _, rfl, rfl, ⟨by decide, by decide, by decide⟩, _, _, rfl, rfl, _, rfl, ?_⟩
      rw [fin60, decide_eq_false mf]
      refine iteF ?_
      refine ⟨_, rfl, _, rfl, r1, _, _, _, rfl, rfl, h1, (atI_nat (j := 1) rfl), p, q1, _, _, _, _, 1, rfl, hp2, h2, ⟨sb.1, sb.2, mb.1.mono (by decide), mb.2.mono (by decide)⟩, .inl rfl, fun l5 hl5 => ?_⟩
      refine ⟨l5, _, rfl, s2.trans (Same.upd hl5), SqT.of ?_⟩
      rw [sumU_take (show (S.map (·.2))[i]? = some m.2 by rw [List.getElem?_map, hm]; rfl)]
      exact upd_same
    · rintro σ H2 ⟨p, o2, rfl, s2, hp2⟩
      rw [lx, List.take_of_length_le (by rw [List.length_map]; exact Nat.le_refl _)] at hp2
      refine ⟨_, rfl, a, rfl, ⟨_, s2.tup ha⟩, fun A1 hA1 => ?_⟩
      have sA : ∀ o : HO, Same H2 (upd H2 A1 o) := fun o => Same.upd hA1
      refine compT (K := K) (a := a) (xs := xs) (fun i acc H3 => H3 = upd H2 A1 (.lst acc) ∧ acc = ((S.map (·.1)).take i).map V.str) ⟨rfl, rfl⟩ (fun i acc H3 _ ⟨e, _⟩ => by rw [e]; exact (s2.trans (sA _)).tup ha) ?_ ?_
      · rintro i y acc H3 hi ⟨rfl, rfl⟩
        obtain ⟨m, hm, r1, q1, rfl, h1', h2'⟩ := paired_at r hi
        have h1 := (s2.trans (sA (.lst (((S.map (·.1)).take i).map V.str)))).tup h1'
        refine ⟨_, rfl, r1, _, _, _, rfl, rfl, h1, (atI_nat (j := 0) rfl), upd_same, ?_, by rw [upd_upd], ?_⟩
        · rw [List.length_map, List.length_take, List.length_map]
          exact small1000 (by omega)
        · rw [List.take_add_one, show (S.map (·.1))[i]? = some m.1 by rw [List.getElem?_map, hm]; rfl, Option.toList_some, List.map_append]
          rfl
      · rintro acc H3 ⟨rfl, rfl⟩
        rw [lx, List.take_of_length_le (by rw [List.length_map]; exact Nat.le_refl _)]
        have s3 := s2.trans (sA (.lst ((S.map (·.1)).map V.str)))
        have hp3 := (sA (.lst ((S.map (·.1)).map V.str))).tup hp2
        have hn3 : SqL K (upd H2 A1 (.lst ((S.map (·.1)).map V.str))) A1 ((S.map (·.1)).map V.str) := SqL.of upd_same
        generalize (upd H2 A1 (.lst ((S.map (·.1)).map V.str))) = H3 at s3 hp3 hn3 ⊢
        have l64 : (S.map (·.1)).length < 64 := by rw [List.length_map]; omega
        refine ⟨_, rfl, p, _, _, _, rfl, rfl, hp3, (atI_nat (j := 0) rfl), _, rfl, p, _, _, _, rfl, rfl, hp3, (atI_nat (j := 1) rfl), rfl, _, rfl, ?_⟩
        rw [su_all hG, decide_eq_true rfl]
        refine iteT ?_
        refine ⟨_, rfl, _, rfl, A1, _, rfl, hn3, l64, fun l6 tt hl6 pm so => ?_⟩
        obtain rfl := hG.sorted_self pm so
        have s6 := Same.upd (o := .lst ((S.map (·.1)).map V.str)) hl6
        have lay : ∀ x ∈ S.map (·.1), PyData.canLay0 (.str x) = true := fun x hx => by
          obtain ⟨p, hp, rfl⟩ := List.mem_map.mp hx
          exact hl p hp
        refine ⟨_, _, IsD.lst (s6.seq hn3) (isDs_strs _), IsD.lst (SqL.of upd_same) (isDs_strs _), lay_strs lay, lay_strs lay, by show PyData.depthAll _ + 1 ≤ 50; rw [dep_strs]; decide, _, rfl, ?_⟩
        rw [eqv_strs lay]
        refine iteT ?_
        have hn6 := s6.seq hn3
        have s36 := s3.trans s6
        generalize (upd H3 l6 (.lst ((S.map (·.1)).map V.str))) = H6 at hn6 s36 ⊢
        refine ⟨_, rfl, A1, _, rfl, hn6, hG.nd, by omega, fun l7 hl7 => ?_⟩
        have s7 := Same.upd (o := SetN l7 (S.map (·.1)).length) hl7
        refine ⟨l7, _, rfl, upd_same, by omega, _, rfl, A1, _, rfl, .inl (s7.seq hn6), rfl, ?_⟩
        rw [decide_eq_true (by simp)]
        exact q _ (s36.trans s7)
noncomputable def sp_law_would (K : PySem.W.Frag) : Sp := fun vs H Q _ => ∃ (a b e p : Addr) (S F : Sh) (ss : List Str) (way many t c : Int) (g k : Str), vs = [.ref a, .ref b, .ref e] ∧ ShF K H a S ∧ ShF K H b F ∧ SqT K H e [.int way, .str g, .str k, .ref p, .int many] ∧ SqT K H p [.int t, .int c] ∧ DeedOk ss S F way g k (t, c) many ∧ ∀ l d e2 U V H', Same H H' → H d = none → H' l = some (.tup [.ref d, .ref e2]) → ShD K H' d U → ShD K H' e2 V → UOk 6000 U → UOk 6000 V → U.length < 60 → V.length < 60 → (∀ x, qF (shAt U x) = qF (shAt (resD S F way g k (t, c) many) x)) → (∀ x, qF (shAt V x) = qF (shAt (lossD S way g k (t, c)) x)) → Q (.ref l) H'
theorem sc_law_would : FnScope ["_law_shares", "_law_first", "_law_deed_here", "_law_way", "_law_giver", "_law_taker", "_law_part", "_law_many", "_law_held", "_law_name", "_law_share", "_law_had", "_law_own", "_law_others", "_law_all_others", "_law_rest", "_law_losses"] ["_law_shares", "_law_first", "_law_deed_here"] (defScope s_law_would) := ⟨rfl, rfl, rfl, by decide +kernel, rfl, by decide +kernel, by decide +kernel⟩
set_option maxHeartbeats 4000000 in
theorem ok_law_would (T : Tx K mg "_law_would" s_law_would ["_law_shares", "_law_first", "_law_deed_here"]) (B : Bn mg) (d_law_plus : Df P w K mg base 1 "_law_plus" ["_law_one", "_law_other", "_law_sign"] (sp_law_plus K)) (d_law_under : Df P w K mg base 1 "_law_under" ["_law_one", "_law_other"] (sp_law_under K)) : Df P w K mg base 2 "_law_would" ["_law_shares", "_law_first", "_law_deed_here"] (sp_law_would K) := by
  refine T.df sc_law_would (fun vs H Q E h => ?_) (fun f cdv A outer s H vs Q E hr h => ?_)
  · obtain ⟨a, b, e, p, S, F, ss, way, many, t, c, g, k, rfl, hS, hF, he, hp, hO, q⟩ := h
    rfl
  · obtain ⟨a, b, e, p, S, F, ss, way, many, t, c, g, k, rfl, hS, hF, he, hp, hO, q⟩ := h
    have hu := hr.units
    refine ⟨_, (pss_cons (ps_asg (pv 2) (pg_tup rfl (pgs_cons (pg_name (i := 3) sc_law_would.nd rfl (by first | exact Or.inl rfl | exact Or.inr rfl)) (pgs_cons (pg_name (i := 4) sc_law_would.nd rfl (by first | exact Or.inl rfl | exact Or.inr rfl)) (pgs_cons (pg_name (i := 5) sc_law_would.nd rfl (by first | exact Or.inl rfl | exact Or.inr rfl)) (pgs_cons (pg_name (i := 6) sc_law_would.nd rfl (by first | exact Or.inl rfl | exact Or.inr rfl)) (pgs_cons (pg_name (i := 7) sc_law_would.nd rfl (by first | exact Or.inl rfl | exact Or.inr rfl)) pgs_nil)))))))
      (pss_cons (ps_set (i := 8) sc_law_would.nd rfl (by first | exact Or.inl rfl | exact Or.inr rfl) (pe_callTy (call_dictP rfl) (by rfl) B.dict boot_dict (pa_cons (pv 0) pa_nil)))
      (pss_cons (ps_if (pt_cmpR op_eq (pv 3) pe_int (nomark _)) (pss_cons (ps_for PassesOwn.never rfl (pi_tup (pv 1)) (pg_tup rfl (pgs_cons (pg_name (i := 9) sc_law_would.nd rfl (by first | exact Or.inl rfl | exact Or.inr rfl)) (pgs_cons (pg_name (i := 10) sc_law_would.nd rfl (by first | exact Or.inl rfl | exact Or.inr rfl)) pgs_nil))) (pss_one (ps_expr (pe_bm PySem.F.plainAttrs_dict PySem.F.slot_dict_setdefault PySem.F.type_dict_setdefault mt_setdefault (pv 8) (pa_cons (pv 9) (pa_cons (pe_tup (pa_cons pe_int (pa_cons pe_int pa_nil))) pa_nil))))))
      (pss_cons (ps_for PassesOwn.never rfl (pi_list (pe_callTy (call_listD rfl) (by rfl) B.list boot_list (pa_cons (pv 8) pa_nil))) (pg_name (i := 9) sc_law_would.nd rfl (by first | exact Or.inl rfl | exact Or.inr rfl)) (pss_cons (ps_set (i := 11) sc_law_would.nd rfl (by first | exact Or.inl rfl | exact Or.inr rfl) (pe_dget2 (hu_of hr) (pe_callTy (call_dictP rfl) (by rfl) B.dict boot_dict (pa_cons (pv 1) pa_nil)) (pv 9) (pe_tup (pa_cons pe_int (pa_cons pe_int pa_nil))) ⟨rfl, rfl, rfl, rfl⟩))
      (pss_cons (ps_dput (hu_of hr) (pv 8) (pv 9) (pe_df d_law_plus hr (pa_cons (pe_tup (pa_cons (pe_op op_mulB (pv 7) (pe_ix ix_tup (pe_dget (hu_of hr) (pv 8) (pv 9) (fun _ _ => rfl)) pe_int (fun _ _ => rfl))) (pa_cons (pe_ix ix_tup (pe_dget (hu_of hr) (pv 8) (pv 9) (fun _ _ => rfl)) pe_int (fun _ _ => rfl)) pa_nil))) (pa_cons (pe_tup (pa_cons (pe_op op_mulB pe_int (pe_ix ix_tup (pv 11) pe_int (fun _ _ => rfl))) (pa_cons (pe_ix ix_tup (pv 11) pe_int (fun _ _ => rfl)) pa_nil))) (pa_cons pe_int pa_nil)))) rfl)
      (pss_one (ps_dput (hu_of hr) (pv 8) (pv 9) (pe_tup (pa_cons (pe_ix ix_tup (pe_dget (hu_of hr) (pv 8) (pv 9) (fun _ _ => rfl)) pe_int (fun _ _ => rfl)) (pa_cons (pe_op op_mulB (pe_ix ix_tup (pe_dget (hu_of hr) (pv 8) (pv 9) (fun _ _ => rfl)) pe_int (fun _ _ => rfl)) (pe_op op_add (pv 7) pe_int)) pa_nil))) rfl)))))
      (pss_one (ps_ret (pe_tup (pa_cons (pv 8) (pa_cons pe_dnewK pa_nil))))))) pss_nil)
      (pss_cons (ps_if (pt_cmpR op_eq (pv 4) (pv 5) (nomark _)) (pss_one (ps_ret (pe_tup (pa_cons (pv 8) (pa_cons pe_dnewK pa_nil))))) pss_nil)
      (pss_cons (ps_set (i := 12) sc_law_would.nd rfl (by first | exact Or.inl rfl | exact Or.inr rfl) (pe_dget2 (hu_of hr) (pv 8) (pv 4) (pe_tup (pa_cons pe_int (pa_cons pe_int pa_nil))) ⟨rfl, rfl, rfl, rfl⟩))
      (pss_consE (ps_if (pt_not (pt_val (pe_df d_law_under hr (pa_cons (pv 12) (pa_cons (pv 6) pa_nil))))) (pss_one (ps_set (i := 12) sc_law_would.nd rfl (by first | exact Or.inl rfl | exact Or.inr rfl) (pv 6))) pss_nil)
      (pss_cons (ps_dput (hu_of hr) (pv 8) (pv 4) (pe_df d_law_plus hr (pa_cons (pe_dget2 (hu_of hr) (pv 8) (pv 4) (pe_tup (pa_cons pe_int (pa_cons pe_int pa_nil))) ⟨rfl, rfl, rfl, rfl⟩) (pa_cons (pv 12) (pa_cons (pe_un un_neg pe_int) pa_nil)))) rfl)
      (pss_cons (ps_setC (i := 13) sc_law_would.nd rfl (by first | exact Or.inl rfl | exact Or.inr rfl) ["_law_name", "_law_share"] [("_law_giver", 4), ("_law_taker", 5)] (clOf _ ["_law_taker", "_law_giver"]) rfl (by rfl) rfl (by decide +kernel) (by decide +kernel) (clOf_cells (by rfl)) (kin_of (by rfl)) (fun p hp => by
        cases hp with
        | head => exact ⟨rfl, rfl⟩
        | tail _ hp => exact (by
        cases hp with
        | head => exact ⟨rfl, rfl⟩
        | tail _ hp => exact (by cases hp))) (fun p hp => by
        cases hp with
        | head => exact rfl
        | tail _ hp => exact (by
        cases hp with
        | head => exact rfl
        | tail _ hp => exact (by cases hp))) (wk_tup2 (by decide) (by decide) (by decide)) (pi_tup (pv 0)) (fun _ _ _ _ => pg_tupK (K := K) rfl rfl (pgs_cons (pg_name (i := 0) (show (["_law_name", "_law_share", "_law_giver", "_law_taker"] : List Str).Nodup by decide +kernel) rfl (Or.inl rfl) (Or.inr rfl)) (pgs_cons (pg_name (i := 1) (show (["_law_name", "_law_share", "_law_giver", "_law_taker"] : List Str).Nodup by decide +kernel) rfl (Or.inl rfl) (Or.inr rfl)) pgs_nil))) (fun _ _ _ _ => pifs_one ((pw_and (pt_cmpR op_ne (pv 0) (pv 2) (nomark _)) (pw_and1 (pt_cmpR op_ne (pv 0) (pv 3) (nomark _)))).pt)) (fun _ _ _ _ => (pe_tup (pa_cons (pv 0) (pa_cons (pv 1) pa_nil)))))
      (pss_cons (ps_set (i := 14) sc_law_would.nd rfl (by first | exact Or.inl rfl | exact Or.inr rfl) (pe_df d_law_plus hr (pa_cons (pe_tup (pa_cons pe_int (pa_cons pe_int pa_nil))) (pa_cons (pe_dget2 (hu_of hr) (pe_callTy (call_dictP rfl) (by rfl) B.dict boot_dict (pa_cons (pv 0) pa_nil)) (pv 4) (pe_tup (pa_cons pe_int (pa_cons pe_int pa_nil))) ⟨rfl, rfl, rfl, rfl⟩) (pa_cons (pe_un un_neg pe_int) pa_nil)))))
      (pss_cons (ps_set (i := 14) sc_law_would.nd rfl (by first | exact Or.inl rfl | exact Or.inr rfl) (pe_df d_law_plus hr (pa_cons (pv 14) (pa_cons (pe_dget2 (hu_of hr) (pe_callTy (call_dictP rfl) (by rfl) B.dict boot_dict (pa_cons (pv 0) pa_nil)) (pv 5) (pe_tup (pa_cons pe_int (pa_cons pe_int pa_nil))) ⟨rfl, rfl, rfl, rfl⟩) (pa_cons (pe_un un_neg pe_int) pa_nil)))))
      (pss_cons (ps_set (i := 15) sc_law_would.nd rfl (by first | exact Or.inl rfl | exact Or.inr rfl) (pe_df d_law_plus hr (pa_cons (pv 6) (pa_cons (pv 12) (pa_cons (pe_un un_neg pe_int) pa_nil)))))
      (pss_consE (ps_if (pt_val (pe_df d_law_under hr (pa_cons (pv 14) (pa_cons (pv 15) pa_nil)))) (pss_one (ps_set (i := 15) sc_law_would.nd rfl (by first | exact Or.inl rfl | exact Or.inr rfl) (pv 14))) pss_nil)
      (pss_cons (ps_set (i := 16) sc_law_would.nd rfl (by first | exact Or.inl rfl | exact Or.inr rfl) pe_dnewK)
      (pss_cons (ps_for PassesOwn.never rfl (pi_list (pv 13)) (pg_tup rfl (pgs_cons (pg_name (i := 9) sc_law_would.nd rfl (by first | exact Or.inl rfl | exact Or.inr rfl)) (pgs_cons (pg_name (i := 10) sc_law_would.nd rfl (by first | exact Or.inl rfl | exact Or.inr rfl)) pgs_nil))) (pss_one (ps_if (pt_cmpR op_gt (pe_ix ix_tup (pv 15) pe_int (fun _ _ => rfl)) pe_int (nomark _)) (pss_cons (ps_dput (hu_of hr) (pv 16) (pv 9) (pe_tup (pa_cons (pe_op op_mulB (pe_op op_mulB (pe_ix ix_tup (pv 10) pe_int (fun _ _ => rfl)) (pe_ix ix_tup (pv 15) pe_int (fun _ _ => rfl))) (pe_ix ix_tup (pv 14) pe_int (fun _ _ => rfl))) (pa_cons (pe_op op_mulB (pe_op op_mulB (pe_ix ix_tup (pv 10) pe_int (fun _ _ => rfl)) (pe_ix ix_tup (pv 15) pe_int (fun _ _ => rfl))) (pe_ix ix_tup (pv 14) pe_int (fun _ _ => rfl))) pa_nil))) rfl)
      (pss_one (ps_dput (hu_of hr) (pv 8) (pv 9) (pe_df d_law_plus hr (pa_cons (pv 10) (pa_cons (pe_dget (hu_of hr) (pv 16) (pv 9) (fun _ _ => rfl)) (pa_cons (pe_un un_neg pe_int) pa_nil)))) rfl))) pss_nil)))
      (pss_cons (ps_dput (hu_of hr) (pv 8) (pv 5) (pe_df d_law_plus hr (pa_cons (pe_dget2 (hu_of hr) (pv 8) (pv 5) (pe_tup (pa_cons pe_int (pa_cons pe_int pa_nil))) ⟨rfl, rfl, rfl, rfl⟩) (pa_cons (pe_df d_law_plus hr (pa_cons (pv 12) (pa_cons (pv 15) (pa_cons pe_int pa_nil)))) (pa_cons pe_int pa_nil)))) rfl)
      (pss_one (ps_ret (pe_tup (pa_cons (pv 8) (pa_cons (pv 16) pa_nil)))))))))))))))))))), ?_⟩
    have ok := hO.gS
    have okF := hO.gF
    have lS := ok.len
    have lF := okF.len
    have h8 := hO.h8
    refine ⟨_, rfl, e, _, rfl, he, rfl, _, _, rfl, _, _, rfl, _, _, rfl, _, _, rfl, _, _, rfl, rfl, ?_⟩
    obtain ⟨o1, vs1, kv1, d1, d2, d3, d4⟩ := hS.dictE ok.nd
    refine ⟨_, rfl, a, o1, vs1, kv1, rfl, d1, d2, d3, fun d hd => ?_⟩
    have hD := d4 d hd
    have s1 := Same.upd (o := .dK (mergeK [] kv1)) hd
    generalize (upd H d (.dK (mergeK [] kv1))) = H1 at hD s1 ⊢
    have S1 : ∀ {H2 H3 : Hp}, Same H H2 → SameX d H2 H3 → Same H H3 := fun {H2 H3} s x c o e => x c o (fun z => by rw [z, hd] at e; cases e) (s c o e)
    have B3 : ∀ {n : Nat} {f : Int × Int}, Bd n f.1 ∧ Bd n f.2 → n ≤ 3000 → Bd 3000 f.1 ∧ Bd 3000 f.2 := fun h l => ⟨h.1.mono l, h.2.mono l⟩
    have B6 : ∀ {n : Nat} {f : Int × Int}, Bd n f.1 ∧ Bd n f.2 → n ≤ 6000 → Bd 6000 f.1 ∧ Bd 6000 f.2 := fun h l => ⟨h.1.mono l, h.2.mono l⟩
    have uS : UOk 6000 S := ⟨ok.nd, fun q hq => (ok.ok q hq).1.pos, fun q hq => B6 (ok.bd hq) (by decide)⟩
    have len8 : ∀ {U : Sh}, (U.map (·.1)).Nodup → (∀ x ∈ U.map (·.1), x ∈ ss) → U.length ≤ 8 := fun {U} n h => by
      have := nd_le n h
      rw [List.length_map] at this
      omega
    refine ⟨_, rfl, rfl, _, rfl, ?_⟩
    refine ite2 (fun w4 => ?_) (fun w4 => ?_)
    · have w4 : way = 4 := V.int.inj (of_decide_eq_true w4)
      have m0 : 0 < many := by have := hO.m1; omega
      obtain ⟨vsF, hvF, rF⟩ := hF.t
      have lvF := ShT.len (a := b) rF
      refine ⟨_, rfl, b, rfl, ⟨_, s1.tup hvF⟩, for_tup (K := K) (a := b) (xs := vsF) (fun i σ H2 => ∃ (o9 o10 : Option V) (U : Sh), σ = [some (.ref a), some (.ref b), some (.ref e), some (.int way), some (.str g), some (.str k), some (.ref p), some (.int many), some (.ref d), o9, o10, none, none, none, none, none, none] ∧ Same H H2 ∧ ShD K H2 d U ∧ (U.map (·.1)).Nodup ∧ (∀ x, shAt U x = shAt S x) ∧ (∀ q ∈ F.take i, q.1 ∈ U.map (·.1)) ∧ (∀ x ∈ S.map (·.1), x ∈ U.map (·.1)) ∧ ∀ x ∈ U.map (·.1), x ∈ ss) ⟨none, none, S, rfl, s1, hD, ok.nd, fun _ => rfl, fun q hq => by simp at hq, fun _ h => h, ok.names⟩ (fun i σ H2 _ ⟨_, _, _, _, e, _⟩ => e.tup hvF) ?_ ?_⟩
      · rintro i y σ H2 hi ⟨o9, o10, U, rfl, s2, hD2, nd2, at2, in2, inS, sub2⟩
        obtain ⟨m, hm, r1, q1, rfl, h1, h2⟩ := paired_at rF hi
        have l2 := len8 nd2 sub2
        refine ⟨r1, _, rfl, s2.tup h1, rfl, _, _, rfl, _, _, rfl, rfl, ?_⟩
        obtain ⟨kvs2, hk2, _⟩ := id hD2
        refine ⟨_, rfl, .inr (.inr (.inl ⟨rfl, .inl ⟨_, hk2⟩⟩)), _, rfl, len_ok rfl, fun l3 hl3 => ?_⟩
        refine sh_dflt hD2 hl3 (by omega) _ fun v H3 sx tk hD3 => ?_
        have mem : m ∈ F := List.mem_of_getElem? hm
        refine ⟨_, _, _, rfl, S1 s2 sx, hD3, ?_⟩
        have et : F.take (i + 1) = F.take i ++ [m] := by rw [List.take_add_one, hm]; rfl
        by_cases z : m.1 ∈ U.map (·.1)
        · rw [if_pos z]
          refine ⟨nd2, at2, fun q hq => ?_, inS, sub2⟩
          rw [et] at hq
          rcases List.mem_append.mp hq with w | w
          · exact in2 q w
          · rw [List.mem_singleton.mp w]; exact z
        · rw [if_neg z]
          refine ⟨putS_nodup nd2 .., fun x => ?_, fun q hq => ?_, fun x hx => (putS_mem_iff ..).mpr (.inl (inS x hx)), fun x hx => ?_⟩
          · rw [shAt_put]
            split
            · rename_i e
              rw [e, ← at2, shAt_out z]
            · exact at2 x
          · rw [et] at hq
            rcases List.mem_append.mp hq with w | w
            · exact (putS_mem_iff ..).mpr (.inl (in2 q w))
            · rw [List.mem_singleton.mp w]; exact (putS_mem_iff ..).mpr (.inr rfl)
          · rcases (putS_mem_iff ..).mp hx with w | w
            · exact sub2 x w
            · rw [w]; exact okF.nm m mem
      · rintro σ H2 ⟨o9, o10, U, rfl, s2, hD2, nd2, at2, in2, inS, sub2⟩
        rw [lvF, List.take_length] at in2
        have l2 := len8 nd2 sub2
        obtain ⟨kvs2, hk2, r2⟩ := id hD2
        refine ⟨_, rfl, d, kvs2, rfl, .inl hk2, fun l3 hl3 => ?_⟩
        rw [shv_names r2]
        have s3 := Same.upd (o := .lst ((U.map (·.1)).map V.str)) hl3
        have hD3 := hD2.same s3
        have s03 := s2.trans s3
        have hl3' : upd H2 l3 (.lst ((U.map (·.1)).map V.str)) l3 = some (.lst ((U.map (·.1)).map V.str)) := upd_same
        have nld : l3 ≠ d := fun z => by rw [z, hk2] at hl3; cases hl3
        generalize (upd H2 l3 (.lst ((U.map (·.1)).map V.str))) = H3 at s3 hD3 s03 hl3' ⊢
        have hx3 : ∀ {H4 H5 : Hp} {o : HO}, H4 l3 = some o → SameX d H4 H5 → H5 l3 = some o := fun h x => x _ _ nld h
        refine ⟨l3, rfl, ⟨_, SqL.of hl3'⟩, for_list (K := K) (a := l3) (xs := (U.map (·.1)).map V.str) (fun i σ H4 => ∃ (p9 p10 p11 : Option V) (U2 : Sh), σ = [some (.ref a), some (.ref b), some (.ref e), some (.int way), some (.str g), some (.str k), some (.ref p), some (.int many), some (.ref d), p9, p10, p11, none, none, none, none, none] ∧ Same H H4 ∧ H4 l3 = some (.lst ((U.map (·.1)).map V.str)) ∧ ShD K H4 d U2 ∧ U2.map (·.1) = U.map (·.1) ∧ (∀ x, shAt U2 x = if x ∈ (U.map (·.1)).take i then mixW S F many x else shAt S x) ∧ UOk 6000 U2) ⟨o9, o10, none, U, rfl, s03, hl3', hD3, rfl, fun x => by rw [if_neg (by simp)]; exact at2 x, ⟨nd2, fun q hq => ?_, fun q hq => ?_⟩⟩ (fun i σ H4 _ ⟨_, _, _, _, _, _, e, _⟩ => SqL.of e) ?_ ?_⟩
        · have := shAt_of_mem nd2 hq
          rw [at2] at this
          rw [← this]
          exact (ok.atp q.1).1
        · have := shAt_of_mem nd2 hq
          rw [at2] at this
          rw [← this]
          have z := ok.atp q.1
          exact B6 (n := 200) ⟨z.2.2.1, z.2.2.2.1⟩ (by decide)
        · rintro i y σ H4 hi ⟨p9, p10, p11, U2, rfl, s4, hl4, hD4, nm4, at4, uo4⟩
          obtain ⟨x, hx, rfl⟩ : ∃ x, (U.map (·.1))[i]? = some x ∧ V.str x = y := by
            rw [List.getElem?_map] at hi
            cases e : (U.map (·.1))[i]? with
            | none => rw [e] at hi; cases hi
            | some x => rw [e] at hi; exact ⟨x, rfl, Option.some.inj hi⟩
          have hxU : x ∈ U.map (·.1) := List.mem_of_getElem? hx
          have hx2 : x ∈ U2.map (·.1) := by rw [nm4]; exact hxU
          have l2' : U2.length ≤ 8 := by
            have := congrArg List.length nm4
            rw [List.length_map, List.length_map] at this
            omega
          have nti : x ∉ (U.map (·.1)).take i := fun z => by
            have n2 : ((U.map (·.1)).take (i + 1)).Nodup := nd2.sublist (List.take_sublist ..)
            rw [List.take_add_one, hx, Option.toList_some, List.nodup_append] at n2
            exact n2.2.2 x z x (by simp) rfl
          have ex : shAt U2 x = shAt S x := by rw [at4, if_neg nti]
          have zS := ok.atp x
          have zF := okF.atp x
          obtain ⟨oF, vF, kvF, f1, f2, f3, f4⟩ := (hF.tk s4.tk).dictE okF.nd
          refine ⟨_, rfl, b, oF, vF, kvF, rfl, f1, f2, f3, fun dF hdF => ?_⟩
          have hDF := f4 dF hdF
          have s5 := Same.upd (o := .dK (mergeK [] kvF)) hdF
          generalize (upd H4 dF (.dK (mergeK [] kvF))) = H5 at hDF s5 ⊢
          refine ⟨dF, rfl, hDF.isDD, _, rfl, len_ok rfl, fun l5 hl5 => ?_⟩
          obtain ⟨ov, ph, g1, g2, hph⟩ := sh_get2 (x := x) hDF hl5
          refine ⟨ov, g1, ?_⟩
          rw [g2]
          have s6 := Same.upd (o := .tup [.int 0, .int 1]) hl5
          have s46 := s5.trans s6
          generalize (upd H5 l5 (.tup [.int 0, .int 1])) = H6 at hph s6 s46 ⊢
          have hD6 := hD4.same s46
          obtain ⟨pp, dg, hpp⟩ := sh_getI hD6 hx2
          rw [ex] at hpp
          have bm : Bd 20000 many := (bd_le (by have := hO.m1; omega) (by have := hO.m2; omega)).mono (by decide)
          refine ⟨_, rfl, _, rfl, _, rfl, d, _, rfl, dg, pp, _, _, _, rfl, rfl, hpp, (atI_nat (j := 0) rfl), _, _, rfl, rfl, ⟨bm, zS.2.2.1.mono (by decide)⟩, ?_⟩
          refine ⟨_, rfl, _, rfl, d, _, rfl, dg, pp, _, _, _, rfl, rfl, hpp, (atI_nat (j := 1) rfl), len_ok rfl, fun l7 hl7 => ?_⟩
          have s7 := Same.upd (o := .tup [.int (many * (shAt S x).1), .int (shAt S x).2]) hl7
          refine ⟨_, rfl, ph, _, _, _, rfl, rfl, s7.tup hph, (atI_nat (j := 0) rfl), _, _, rfl, rfl, ⟨(bd_le (by decide) (by decide)).mono (by decide), zF.2.2.1.mono (by decide)⟩, ?_⟩
          refine ⟨_, rfl, ph, _, _, _, rfl, rfl, s7.tup hph, (atI_nat (j := 1) rfl), len_ok rfl, fun l8 hl8 => ?_⟩
          have s8 := Same.upd (o := .tup [.int (3 * (shAt F x).1), .int (shAt F x).2]) hl8
          have h7 : SqT K (upd (upd H6 l7 (.tup [.int (many * (shAt S x).1), .int (shAt S x).2])) l8 (.tup [.int (3 * (shAt F x).1), .int (shAt F x).2])) l7 [.int (many * (shAt S x).1), .int (shAt S x).2] := s8.tup (SqT.of upd_same)
          have h8' : SqT K (upd (upd H6 l7 (.tup [.int (many * (shAt S x).1), .int (shAt S x).2])) l8 (.tup [.int (3 * (shAt F x).1), .int (shAt F x).2])) l8 [.int (3 * (shAt F x).1), .int (shAt F x).2] := SqT.of upd_same
          have s48 := s46.trans (s7.trans s8)
          generalize (upd (upd H6 l7 (.tup [.int (many * (shAt S x).1), .int (shAt S x).2])) l8 (.tup [.int (3 * (shAt F x).1), .int (shAt F x).2])) = H8 at h7 h8' s48 ⊢
          have b7 : Bd 450 (many * (shAt S x).1) := (bd_le (i := many) (by have := hO.m1; omega) (by have := hO.m2; omega)).mul zS.2.2.1
          have b8 : Bd 450 (3 * (shAt F x).1) := (bd_le (i := 3) (by decide) (by decide)).mul zF.2.2.1
          refine ⟨l7, l8, _, _, _, _, 1, rfl, h7, h8', ⟨b7.mono (by decide), zS.2.2.2.1.mono (by decide), b8.mono (by decide), zF.2.2.2.1.mono (by decide)⟩, .inl rfl, fun l9 hl9 => ?_⟩
          change ∃ v, _
          have pw : (.tup [.int (many * (shAt S x).1 * (shAt F x).2 + 1 * (3 * (shAt F x).1) * (shAt S x).2), .int ((shAt S x).2 * (shAt F x).2)] : HO) = .tup [.int (plusU (many * (shAt S x).1, (shAt S x).2) (3 * (shAt F x).1, (shAt F x).2)).1, .int (plusU (many * (shAt S x).1, (shAt S x).2) (3 * (shAt F x).1, (shAt F x).2)).2] := rfl
          rw [pw]
          have bz : Bd 901 (plusU (many * (shAt S x).1, (shAt S x).2) (3 * (shAt F x).1, (shAt F x).2)).1 ∧ Bd 900 (plusU (many * (shAt S x).1, (shAt S x).2) (3 * (shAt F x).1, (shAt F x).2)).2 := bd_plusU (n := 450) (m := 450) b7 (zS.2.2.2.1.mono (by decide)) b8 (zF.2.2.2.1.mono (by decide))
          have mwp := q_mixW (S := S) (F := F) m0 x zS.1 zF.1
          have mw : mixW S F many x = ((plusU (many * (shAt S x).1, (shAt S x).2) (3 * (shAt F x).1, (shAt F x).2)).1, (plusU (many * (shAt S x).1, (shAt S x).2) (3 * (shAt F x).1, (shAt F x).2)).2 * (many + 3)) := rfl
          have pz : 0 < (plusU (many * (shAt S x).1, (shAt S x).2) (3 * (shAt F x).1, (shAt F x).2)).2 := plusU_pos zS.1 zF.1
          generalize (plusU (many * (shAt S x).1, (shAt S x).2) (3 * (shAt F x).1, (shAt F x).2)) = Z at bz mw pz ⊢
          have s9 := Same.upd (o := .tup [.int Z.1, .int Z.2]) hl9
          have h9 : SqT K (upd H8 l9 (.tup [.int Z.1, .int Z.2])) l9 [.int Z.1, .int Z.2] := SqT.of upd_same
          have s49 := s48.trans s9
          generalize (upd H8 l9 (.tup [.int Z.1, .int Z.2])) = H9 at s9 h9 s49 ⊢
          obtain ⟨HA, dp, xA, tA, hDA⟩ := sh_put (x := x) (hD4.same s49) (by omega) h9
          refine ⟨_, rfl, _, rfl, d, HA, rfl, dp, ?_⟩
          have inA : x ∈ (putS U2 x (Z.1, Z.2)).map (·.1) := (putS_mem_iff ..).mpr (.inr rfl)
          obtain ⟨pA, dgA, hpA⟩ := sh_getI hDA inA
          rw [shAt_put, if_pos rfl] at hpA
          refine ⟨_, rfl, _, rfl, d, _, rfl, dgA, pA, _, _, _, rfl, rfl, hpA, (atI_nat (j := 0) rfl), ?_⟩
          have bm3 : Bd 20000 (many + 3) := (bd_le (by have := hO.m1; omega) (by have := hO.m2; omega)).mono (by decide)
          refine ⟨_, rfl, _, rfl, d, _, rfl, dgA, pA, _, _, _, rfl, rfl, hpA, (atI_nat (j := 1) rfl), _, rfl, _, _, rfl, rfl, _, _, rfl, rfl, ⟨bz.2.mono (by decide), bm3⟩, len_ok rfl, fun lB hlB => ?_⟩
          have sB := Same.upd (o := .tup [.int Z.1, .int (Z.2 * (many + 3))]) hlB
          have hB : SqT K (upd HA lB (.tup [.int Z.1, .int (Z.2 * (many + 3))])) lB [.int Z.1, .int (Z.2 * (many + 3))] := SqT.of upd_same
          generalize (upd HA lB (.tup [.int Z.1, .int (Z.2 * (many + 3))])) = HB at sB hB ⊢
          have lA := putS_len U2 x (Z.1, Z.2)
          obtain ⟨HC, dpC, xC, tC, hDC⟩ := sh_put (x := x) (hDA.same sB) (by omega) hB
          refine ⟨_, rfl, _, rfl, d, HC, rfl, dpC, ?_⟩
          have nmC : (putS (putS U2 x (Z.1, Z.2)) x (Z.1, Z.2 * (many + 3))).map (·.1) = U.map (·.1) := by
            rw [putS_names, if_pos inA, putS_names, if_pos hx2, nm4]
          have b93 : Bd 6000 (Z.2 * (many + 3)) := (bz.2.mul (bd_le (i := many + 3) (by have := hO.m1; omega) (by have := hO.m2; omega))).mono (by decide)
          have s4C := S1 (S1 (s4.trans s49) xA) (sB.x.trans xC)
          refine ⟨_, _, _, _, rfl, s4C, hx3 (sB _ _ (hx3 (s49 _ _ hl4) xA)) xC, hDC, nmC, fun u => ?_, (uo4.put x pz (bz.1.mono (by decide)) (bz.2.mono (by decide))).put x (Int.mul_pos pz (show 0 < many + 3 by omega)) (bz.1.mono (by decide)) b93⟩
          rw [shAt_put, shAt_put, List.take_add_one, hx, Option.toList_some]
          by_cases e : u = x
          · rw [if_pos e, if_pos (by rw [e]; simp), e, mw]
          · rw [if_neg e, if_neg e, at4]
            have : u ∈ (U.map (·.1)).take i ++ [x] ↔ u ∈ (U.map (·.1)).take i := by simp [e]
            by_cases z : u ∈ (U.map (·.1)).take i
            · rw [if_pos z, if_pos (this.mpr z)]
            · rw [if_neg z, if_neg (fun w => z (this.mp w))]
        · rintro σ H4 ⟨p9, p10, p11, U2, rfl, s4, hl4, hD4, nm4, at4, uo4⟩
          rw [List.length_map, List.take_length] at at4
          refine ⟨_, rfl, fun d2 hd2 => ?_⟩
          have s5 := Same.upd (o := .dK []) hd2
          refine ⟨len_ok rfl, fun l6 hl6 => ?_⟩
          have s6 := Same.upd (o := .tup [.ref d, .ref d2]) hl6
          have l2' : U2.length ≤ 8 := by
            have := congrArg List.length nm4
            rw [List.length_map, List.length_map] at this
            omega
          refine q l6 d d2 U2 [] _ (s4.trans (s5.trans s6)) hd upd_same (hD4.same (s5.trans s6)) ⟨[], s6 _ _ upd_same, .nil⟩ uo4 ⟨List.nodup_nil, fun _ z => (nomatch z), fun _ z => (nomatch z)⟩ (by omega) (by decide) (fun x => ?_) (fun x => ?_)
          · unfold resD
            rw [if_pos w4, mixS_at ok.shok okF.shok m0 (by decide), at4]
            have zS := ok.atp x
            have zF := okF.atp x
            by_cases z : x ∈ U.map (·.1)
            · rw [if_pos z]
              exact (q_mixW m0 x zS.1 zF.1).2
            · have n1 : x ∉ S.map (·.1) := fun w => z (inS x w)
              have n2 : x ∉ F.map (·.1) := fun w => z (by
                obtain ⟨q, hq, rfl⟩ := List.mem_map.mp w
                exact in2 q hq)
              rw [if_neg z, shAt_out n1, q_zero, mixW_out m0 n1 n2]
          · unfold lossD
            rw [if_pos w4]
    · have w4 : ¬ way = 4 := fun z => w4 (by rw [z, decide_eq_true rfl])
      refine ⟨_, rfl, _, rfl, rfl, _, rfl, ?_⟩
      refine ite2 (fun hgk => ?_) (fun hgk => ?_)
      · have hgk : g = k := V.str.inj (of_decide_eq_true hgk)
        refine ⟨_, rfl, fun d2 hd2 => ?_⟩
        have s5 := Same.upd (o := .dK []) hd2
        refine ⟨len_ok rfl, fun l6 hl6 => ?_⟩
        have s6 := Same.upd (o := .tup [.ref d, .ref d2]) hl6
        refine q l6 d d2 S [] _ (s1.trans (s5.trans s6)) hd upd_same (hD.same (s5.trans s6)) ⟨[], s6 _ _ upd_same, .nil⟩ uS ⟨List.nodup_nil, fun _ z => (nomatch z), fun _ z => (nomatch z)⟩ (by omega) (by decide) (fun x => ?_) (fun x => ?_)
        · unfold resD
          rw [if_neg w4, if_pos hgk]
        · unfold lossD
          rw [if_neg w4, if_pos hgk]
      · have hgk : g ≠ k := fun z => hgk (by rw [z, decide_eq_true rfl])
        obtain ⟨D, hP⟩ := hO.pro hgk
        have zg := ok.atp g
        have zk := ok.atp k
        have gv := gvn_ok (g := g) ok hO.fok hO.b1 hO.b2 hO.f0
        have al := q_all (g := g) (k := k) ok hgk
        have ri := rest_i ok hP hgk hO.b1 hO.b2
        refine ⟨_, rfl, d, rfl, hD.isDD, _, rfl, len_ok rfl, fun l2 hl2 => ?_⟩
        obtain ⟨ov, p2, g1, g2, hp2⟩ := sh_get2 (x := g) hD hl2
        refine ⟨ov, g1, ?_⟩
        rw [g2]
        have s2 := Same.upd (o := .tup [.int 0, .int 1]) hl2
        generalize (upd H1 l2 (.tup [.int 0, .int 1])) = H2 at hp2 s2 ⊢
        have s02 := s1.trans s2
        have hD2 := hD.same s2
        refine ⟨fun σ' H' => ∃ po : Addr, σ' = [some (.ref a), some (.ref b), some (.ref e), some (.int way), some (.str g), some (.str k), some (.ref p), some (.int many), some (.ref d), none, none, none, some (.ref po), none, none, none, none] ∧ H' = H2 ∧ SqT K H2 po [.int (gvn S g (t, c)).1, .int (gvn S g (t, c)).2], ?_, ?_⟩
        · refine ⟨_, rfl, _, rfl, p2, p, _, _, _, _, rfl, hp2, s02.tup hp, ⟨zg.2.2.1.mono (by decide), zg.2.2.2.1.mono (by decide), hO.b1.mono (by decide), hO.b2.mono (by decide)⟩, _, rfl, ?_⟩
          refine ite2 (fun h1 => ?_) (fun h1 => ?_)
          · have n : ¬ ltF (shAt S g) (t, c) := fun z => by
              rw [decide_eq_true (show (shAt S g).1 * c < t * (shAt S g).2 from z)] at h1
              exact absurd h1 (by decide)
            refine ⟨_, rfl, p, rfl, rfl, ?_⟩
            have e1 : gvn S g (t, c) = (t, c) := by unfold gvn lessF; rw [if_neg n]
            rw [e1]
            exact s02.tup hp
          · have n : ltF (shAt S g) (t, c) := Decidable.byContradiction fun z => h1 (by rw [decide_eq_false (show ¬ (shAt S g).1 * c < t * (shAt S g).2 from z)]; rfl)
            refine ⟨p2, rfl, rfl, ?_⟩
            have e1 : gvn S g (t, c) = shAt S g := by unfold gvn lessF; rw [if_pos n]
            rw [e1]
            exact hp2
        rintro σ' H' ⟨po, rfl, rfl, hpo⟩
        generalize eG : gvn S g (t, c) = G at *
        refine ⟨_, rfl, d, rfl, hD2.isDD, _, rfl, len_ok rfl, fun l3 hl3 => ?_⟩
        obtain ⟨ov3, p3, g3, g4, hp3⟩ := sh_get2 (x := g) hD2 hl3
        refine ⟨ov3, g3, ?_⟩
        rw [g4]
        have s3 := Same.upd (o := .tup [.int 0, .int 1]) hl3
        generalize (upd H' l3 (.tup [.int 0, .int 1])) = H3 at hp3 s3 ⊢
        refine ⟨_, rfl, _, rfl, p3, po, _, _, _, _, -1, rfl, hp3, s3.tup hpo, ⟨zg.2.2.1.mono (by decide), zg.2.2.2.1.mono (by decide), gv.2.1.mono (by decide), gv.2.2.1.mono (by decide)⟩, .inr rfl, fun l4 hl4 => ?_⟩
        rw [show (.tup [.int ((shAt S g).1 * (G).2 + -1 * (G).1 * (shAt S g).2), .int ((shAt S g).2 * (G).2)] : HO) = .tup [.int (minU (shAt S g) (G)).1, .int (minU (shAt S g) (G)).2] from rfl]
        have s4 := Same.upd (o := .tup [.int (minU (shAt S g) G).1, .int (minU (shAt S g) G).2]) hl4
        have h4 : SqT K (upd H3 l4 (.tup [.int (minU (shAt S g) G).1, .int (minU (shAt S g) G).2])) l4 [.int (minU (shAt S g) G).1, .int (minU (shAt S g) G).2] := SqT.of upd_same
        generalize (upd H3 l4 (.tup [.int (minU (shAt S g) G).1, .int (minU (shAt S g) G).2])) = H4 at s4 h4 ⊢
        obtain ⟨H5, dp5, x5, t5, hD5⟩ := sh_put (x := g) ((hD2.same s3).same s4) (by omega) h4
        refine ⟨_, rfl, _, rfl, d, H5, rfl, dp5, ?_⟩
        have s05 : Same H H5 := S1 (s02.trans (s3.trans s4)) x5
        have hpo5 : SqT K H5 po [.int G.1, .int G.2] := t5.sq (s4.tup (s3.tup hpo))
        clear x5 dp5 t5 h4 s4 hp3 g3 g4 s3
        obtain ⟨vs2, hv2, r2⟩ := hS.t
        have lv2 := ShT.len (a := a) r2
        refine ⟨_, rfl, a, rfl, ⟨_, s05.tup hv2⟩, fun A1 hA1 => ?_⟩
        refine compT (K := K) (a := a) (xs := vs2) (fun i acc H6 => Same H5 H6 ∧ H6 A1 = some (.lst acc) ∧ Paired (ShE K H6) acc (othS (S.take i) g k)) ⟨Same.upd hA1, upd_same, .nil⟩ (fun i acc H6 _ ⟨e, _⟩ => (s05.trans e).tup hv2) ?_ ?_
        · rintro i y acc H6 hi ⟨s6, hA6, pr⟩
          obtain ⟨m, hm, r1, q1, rfl, h1, h2⟩ := paired_at r2 hi
          have s06 := s05.trans s6
          have snoc := othS_snoc (g := g) (k := k) hm
          have len : acc.length < sizeLine := by
            rw [Paired.length pr]
            have := othS_len (S.take i) g k
            rw [List.length_take] at this
            exact small1000 (by omega)
          refine ⟨r1, _, rfl, s06.tup h1, rfl, _, _, rfl, _, _, rfl, rfl, ?_⟩
          refine ⟨_, rfl, _, rfl, rfl, _, rfl, ?_⟩
          refine ite2 (fun c1 => ?_) (fun c1 => ?_)
          · have n1 : m.1 ≠ g := fun z => by
              rw [z, decide_eq_true rfl] at c1
              exact absurd c1 (by decide)
            refine ⟨_, rfl, _, rfl, rfl, _, rfl, ?_⟩
            refine ite2 (fun c2 => ?_) (fun c2 => ?_)
            · have n2 : m.1 ≠ k := fun z => by
                rw [z, decide_eq_true rfl] at c2
                exact absurd c2 (by decide)
              refine ⟨_, rfl, _, rfl, len_ok rfl, fun r3 hr3 => ?_⟩
              have s7 := Same.upd (o := .tup [.str m.1, .ref q1]) hr3
              refine ⟨s7 _ _ hA6, len, ?_, upd_same, ?_⟩
              · intro b5 o5 e5
                rw [upd_ne (fun z => by rw [z, hA1] at e5; cases e5)]
                exact s7 _ _ (s6 _ _ e5)
              · rw [snoc, if_pos ⟨n1, n2⟩]
                have tk2 := TK.lst (o := .lst (acc ++ [.ref r3])) (s7 _ _ hA6)
                exact Paired.app (Paired.imp (fun _ _ z => (z.same s7).tk tk2) pr) (.cons (ShE.tk tk2 ⟨r3, q1, rfl, SqT.of upd_same, (s06.trans s7).tup h2⟩) .nil)
            · have n2 : ¬ m.1 ≠ k := fun z => c2 (by rw [decide_eq_false (fun w => z (V.str.inj w))]; rfl)
              refine ⟨s6, hA6, ?_⟩
              rw [snoc, if_neg (fun z => n2 z.2), List.append_nil]
              exact pr
          · have n1 : ¬ m.1 ≠ g := fun z => c1 (by rw [decide_eq_false (fun w => z (V.str.inj w))]; rfl)
            refine iteF ⟨s6, hA6, ?_⟩
            rw [snoc, if_neg (fun z => n1 z.1), List.append_nil]
            exact pr
        · rintro acc H6 ⟨s6, hA6, pr⟩
          rw [lv2, List.take_length] at pr
          have s06 := s05.trans s6
          refine ⟨len_ok rfl, fun l7 hl7 => ?_⟩
          have s7 := Same.upd (o := .tup [.int 1, .int 1]) hl7
          have h7 : SqT K (upd H6 l7 (.tup [.int 1, .int 1])) l7 [.int 1, .int 1] := SqT.of upd_same
          generalize (upd H6 l7 (.tup [.int 1, .int 1])) = H7 at s7 h7 ⊢
          have s07 := s06.trans s7
          obtain ⟨oS8, vS8, kS8, f18, f28, f38, f48⟩ := (hS.tk s07.tk).dictE ok.nd
          refine ⟨_, rfl, a, oS8, vS8, kS8, rfl, f18, f28, f38, fun d8 hd8 => ?_⟩
          have hD8 := f48 d8 hd8
          have sd8 := Same.upd (o := .dK (mergeK [] kS8)) hd8
          generalize (upd H7 d8 (.dK (mergeK [] kS8))) = J8 at hD8 sd8 ⊢
          refine ⟨d8, rfl, hD8.isDD, _, rfl, len_ok rfl, fun l8 hl8 => ?_⟩
          obtain ⟨ov8, p8, ga8, gb8, hp8⟩ := sh_get2 (x := g) hD8 hl8
          refine ⟨ov8, ga8, ?_⟩
          rw [gb8]
          have se8 := Same.upd (o := .tup [.int 0, .int 1]) hl8
          have s8 := sd8.trans se8
          generalize (upd J8 l8 (.tup [.int 0, .int 1])) = H8 at hp8 s8 ⊢
          have s08 := s07.trans s8
          refine ⟨_, rfl, l7, p8, _, _, _, _, -1, rfl, s8.tup h7, hp8, ⟨Bd.mono (m := 2) (Bd.of (by decide)) (by decide), Bd.mono (m := 2) (Bd.of (by decide)) (by decide), zg.2.2.1.mono (by decide), zg.2.2.2.1.mono (by decide)⟩, .inr rfl, fun l9 hl9 => ?_⟩
          rw [show (.tup [.int (1 * (shAt S g).2 + -1 * (shAt S g).1 * 1), .int (1 * (shAt S g).2)] : HO) = .tup [.int (minU (1, 1) (shAt S g)).1, .int (minU (1, 1) (shAt S g)).2] from rfl]
          have s9 := Same.upd (o := .tup [.int (minU (1, 1) (shAt S g)).1, .int (minU (1, 1) (shAt S g)).2]) hl9
          have h9 : SqT K (upd H8 l9 (.tup [.int (minU (1, 1) (shAt S g)).1, .int (minU (1, 1) (shAt S g)).2])) l9 [.int (minU (1, 1) (shAt S g)).1, .int (minU (1, 1) (shAt S g)).2] := SqT.of upd_same
          generalize (upd H8 l9 (.tup [.int (minU (1, 1) (shAt S g)).1, .int (minU (1, 1) (shAt S g)).2])) = H9 at s9 h9 ⊢
          have s09 := s08.trans s9
          refine ⟨_, rfl, ?_⟩
          obtain ⟨oS10, vS10, kS10, f110, f210, f310, f410⟩ := (hS.tk s09.tk).dictE ok.nd
          refine ⟨_, rfl, a, oS10, vS10, kS10, rfl, f110, f210, f310, fun d10 hd10 => ?_⟩
          have hD10 := f410 d10 hd10
          have sd10 := Same.upd (o := .dK (mergeK [] kS10)) hd10
          generalize (upd H9 d10 (.dK (mergeK [] kS10))) = J10 at hD10 sd10 ⊢
          refine ⟨d10, rfl, hD10.isDD, _, rfl, len_ok rfl, fun l10 hl10 => ?_⟩
          obtain ⟨ov10, p10, ga10, gb10, hp10⟩ := sh_get2 (x := k) hD10 hl10
          refine ⟨ov10, ga10, ?_⟩
          rw [gb10]
          have se10 := Same.upd (o := .tup [.int 0, .int 1]) hl10
          have s10 := sd10.trans se10
          generalize (upd J10 l10 (.tup [.int 0, .int 1])) = H10 at hp10 s10 ⊢
          have s010 := s09.trans s10
          have b9 := bd_minU (f := (1, 1)) (n := 1) (Bd.of (by decide)) (Bd.of (by decide)) zg.2.2.1 zg.2.2.2.1
          refine ⟨_, rfl, l9, p10, _, _, _, _, -1, rfl, s10.tup h9, hp10, ⟨b9.1.mono (by decide), b9.2.mono (by decide), zk.2.2.1.mono (by decide), zk.2.2.2.1.mono (by decide)⟩, .inr rfl, fun l11 hl11 => ?_⟩
          rw [show (.tup [.int ((minU (1, 1) (shAt S g)).1 * (shAt S k).2 + -1 * (shAt S k).1 * (minU (1, 1) (shAt S g)).2), .int ((minU (1, 1) (shAt S g)).2 * (shAt S k).2)] : HO) = .tup [.int (allU S g k).1, .int (allU S g k).2] from rfl]
          have s11 := Same.upd (o := .tup [.int (allU S g k).1, .int (allU S g k).2]) hl11
          have h11 : SqT K (upd H10 l11 (.tup [.int (allU S g k).1, .int (allU S g k).2])) l11 [.int (allU S g k).1, .int (allU S g k).2] := SqT.of upd_same
          generalize (upd H10 l11 (.tup [.int (allU S g k).1, .int (allU S g k).2])) = H11 at s11 h11 ⊢
          have s011 := s010.trans s11
          have t511 : Same H5 H11 := s6.trans (s7.trans (s8.trans (s9.trans (s10.trans s11))))
          have hA11 := (s7.trans (s8.trans (s9.trans (s10.trans s11)))) _ _ hA6
          have pr11 := Paired.imp (fun _ _ z => ShE.same (s7.trans (s8.trans (s9.trans (s10.trans s11)))) z) pr
          have hpo11 := t511.tup hpo5
          have hD11 := hD5.same t511
          clear pr hA6 hpo5 hD5 s6 s7 s8 s9 s10 h9 h7 hp10 hp8
          refine ⟨_, rfl, _, rfl, _, rfl, p, po, _, _, _, _, -1, rfl, s011.tup hp, hpo11, ⟨hO.b1.mono (by decide), hO.b2.mono (by decide), gv.2.1.mono (by decide), gv.2.2.1.mono (by decide)⟩, .inr rfl, fun l12 hl12 => ?_⟩
          rw [show (.tup [.int (t * G.2 + -1 * G.1 * c), .int (c * G.2)] : HO) = .tup [.int (minU (t, c) G).1, .int (minU (t, c) G).2] from rfl]
          have s12 := Same.upd (o := .tup [.int (minU (t, c) G).1, .int (minU (t, c) G).2]) hl12
          have h12 : SqT K (upd H11 l12 (.tup [.int (minU (t, c) G).1, .int (minU (t, c) G).2])) l12 [.int (minU (t, c) G).1, .int (minU (t, c) G).2] := SqT.of upd_same
          generalize (upd H11 l12 (.tup [.int (minU (t, c) G).1, .int (minU (t, c) G).2])) = H12 at s12 h12 ⊢
          have s012 := s011.trans s12
          have h11' := s12.tup h11
          have bM := bd_minU (f := (t, c)) hO.b1 hO.b2 gv.2.1 gv.2.2.1
          refine ⟨fun σ' H' => ∃ pr2 : Addr, σ' = [some (.ref a), some (.ref b), some (.ref e), some (.int way), some (.str g), some (.str k), some (.ref p), some (.int many), some (.ref d), none, none, none, some (.ref po), some (.ref A1), some (.ref l11), some (.ref pr2), none] ∧ H' = H12 ∧ SqT K H12 pr2 [.int (restU S g k (t, c)).1, .int (restU S g k (t, c)).2], ?_, ?_⟩
          · refine ⟨_, rfl, _, rfl, l11, l12, _, _, _, _, rfl, h11', h12, ⟨al.2.2.1.mono (by decide), al.2.2.2.mono (by decide), bM.1.mono (by decide), bM.2.mono (by decide)⟩, _, rfl, ?_⟩
            refine ite2 (fun c1 => ?_) (fun c1 => ?_)
            · refine ⟨_, rfl, l11, rfl, rfl, ?_⟩
              have e1 : restU S g k (t, c) = allU S g k := by unfold restU; rw [eG, if_pos (of_decide_eq_true c1)]
              rw [e1]
              exact h11'
            · refine ⟨l12, rfl, rfl, ?_⟩
              have e1 : restU S g k (t, c) = minU (t, c) G := by unfold restU; rw [eG, if_neg (fun z => c1 (decide_eq_true z))]
              rw [e1]
              exact h12
          rintro σ' H'' ⟨pr2, rfl, rfl, hpr2⟩
          refine fun d2 hd2 => ?_
          have s13 := Same.upd (o := .dK []) hd2
          have hV13 : ShD K (upd H'' d2 (.dK [])) d2 [] := ⟨[], upd_same, .nil⟩
          have nd2 : d2 ≠ d := fun z => by
            obtain ⟨kk, hkk, _⟩ := hD11.same s12
            rw [z, hkk] at hd2; cases hd2
          have nA : A1 ≠ d := fun z => by
            obtain ⟨kk, hkk, _⟩ := hD11
            rw [z, hkk] at hA11; cases hA11
          have nA2 : A1 ≠ d2 := fun z => by rw [← z, s12 _ _ hA11] at hd2; cases hd2
          have hd20 : H d2 = none := s012.free hd2
          generalize (upd H'' d2 (.dK [])) = H13 at s13 hV13 ⊢
          have s013 := s012.trans s13
          have t13 := s12.trans s13
          have hA13 := t13 _ _ hA11
          have pr13 := Paired.imp (fun _ _ z => ShE.same t13 z) pr11
          have hpo13 := t13.tup hpo11
          have hD13 := hD11.same t13
          have hal13 := s13.tup h11'
          have hpr13 := s13.tup hpr2
          have la : acc.length = (othS S g k).length := Paired.length pr13
          have ol := othS_len S g k
          have ndO := hP.ot.nd
          have u1 : UOk 6000 (putS S g (minU (shAt S g) G)) := by
            have b1 := bd_minU zg.2.2.1 zg.2.2.2.1 gv.2.1 gv.2.2.1
            exact uS.put g (minU_pos zg.1 gv.1) (b1.1.mono (by decide)) (b1.2.mono (by decide))
          have pl1 := putS_len S g (minU (shAt S g) G)
          generalize eR : restU S g k (t, c) = R at *
          generalize eA : allU S g k = AL at *
          have rb1 : Bd 502 R.1 := by rw [← eR]; exact ri.b1
          have rb2 : Bd 502 R.2 := by rw [← eR]; exact ri.b2
          have rp : 0 < R.2 := by rw [← eR]; exact ri.p
          have rle : 0 < R.1 → 0 < AL.1 := by rw [← eR, ← eA]; exact ri.le
          have bl : ∀ q : Str × Int × Int, q ∈ S → Bd 1105 (lossU q.2 R AL).1 ∧ Bd 1105 (lossU q.2 R AL).2 := fun q hq => by
            have z := ok.bd hq
            exact ⟨((z.1.mul rb1).mul al.2.2.2).mono (by decide), ((z.2.mul rb2).mul al.2.2.1).mono (by decide)⟩
          refine ⟨_, rfl, A1, rfl, ⟨_, SqL.of hA13⟩, for_list (K := K) (a := A1) (xs := acc) (fun i σ HH => ∃ o9 o10 : Option V, σ = [some (.ref a), some (.ref b), some (.ref e), some (.int way), some (.str g), some (.str k), some (.ref p), some (.int many), some (.ref d), o9, o10, none, some (.ref po), some (.ref A1), some (.ref l11), some (.ref pr2), some (.ref d2)] ∧ Same H HH ∧ TK H13 HH ∧ HH A1 = some (.lst acc) ∧ ShD K HH d (bothS (putS S g (minU (shAt S g) G)) (cutU ((othS S g k).take i) R AL)) ∧ ShD K HH d2 (losU ((othS S g k).take i) R AL) ∧ UOk 6000 (bothS (putS S g (minU (shAt S g) G)) (cutU ((othS S g k).take i) R AL)) ∧ UOk 6000 (losU ((othS S g k).take i) R AL)) ⟨none, none, rfl, s013, TK.refl _, hA13, by rw [cutU_zero]; exact hD13, by rw [losU_zero]; exact hV13, by rw [cutU_zero]; exact u1, by rw [losU_zero]; exact ⟨List.nodup_nil, fun _ z => (nomatch z), fun _ z => (nomatch z)⟩⟩ (fun i σ HH _ ⟨_, _, _, _, _, e, _⟩ => SqL.of e) ?_ ?_⟩
          · rintro i y σ HH hi ⟨o9, o10, rfl, sH, tH, hAH, hDH, hVH, uH, vH⟩
            obtain ⟨m, hm, r1, q1, rfl, h1', h2'⟩ := paired_at pr13 hi
            have mO := List.mem_of_getElem? hm
            have mS : m ∈ S := (List.mem_filter.mp mO).1
            have m0 := (ok.ok m mS).1.pos
            have mb := ok.bd mS
            have h1 := tH.sq h1'
            have h2 := tH.sq h2'
            have hprH := tH.sq hpr13
            have halH := tH.sq hal13
            have il : i < (othS S g k).length := (List.getElem?_eq_some_iff.mp hm).1
            have lt : ((othS S g k).take i).length ≤ 8 := by rw [List.length_take]; omega
            have lU : (bothS (putS S g (minU (shAt S g) G)) (cutU ((othS S g k).take i) R AL)).length ≤ 20 := by
              have := bothS_len (cutU ((othS S g k).take i) R AL) (putS S g (minU (shAt S g) G))
              have := cutU_len (O := (othS S g k).take i) (r := R) (h := AL)
              omega
            have lV : (losU ((othS S g k).take i) R AL).length ≤ 8 := Nat.le_trans losU_len lt
            refine ⟨r1, _, rfl, h1, rfl, _, _, rfl, _, _, rfl, rfl, ?_⟩
            refine ⟨_, rfl, pr2, _, _, _, rfl, rfl, hprH, (atI_nat (j := 0) rfl), _, _, rfl, rfl, _, rfl, ?_⟩
            refine ite2 (fun c1 => ?_) (fun c1 => ?_)
            · have r0 : 0 < R.1 := of_decide_eq_true c1
              have a0 := rle r0
              have bL := bl m mS
              have lp : 0 < (lossU m.2 R AL).2 := Int.mul_pos (Int.mul_pos m0 rp) a0
              refine ⟨_, rfl, q1, _, _, _, rfl, rfl, h2, (atI_nat (j := 0) rfl), _, rfl, pr2, _, _, _, rfl, rfl, hprH, (atI_nat (j := 0) rfl), _, _, rfl, rfl, ⟨mb.1.mono (by decide), rb1.mono (by decide)⟩, _, rfl, l11, _, _, _, rfl, rfl, halH, (atI_nat (j := 1) rfl), _, _, rfl, rfl, ⟨(mb.1.mul rb1).mono (by decide), al.2.2.2.mono (by decide)⟩, ?_⟩
              refine ⟨_, rfl, q1, _, _, _, rfl, rfl, h2, (atI_nat (j := 1) rfl), _, rfl, pr2, _, _, _, rfl, rfl, hprH, (atI_nat (j := 1) rfl), _, _, rfl, rfl, ⟨mb.2.mono (by decide), rb2.mono (by decide)⟩, _, rfl, l11, _, _, _, rfl, rfl, halH, (atI_nat (j := 0) rfl), _, _, rfl, rfl, ⟨(mb.2.mul rb2).mono (by decide), al.2.2.1.mono (by decide)⟩, len_ok rfl, fun l14 hl14 => ?_⟩
              rw [show (.tup [.int (m.2.1 * R.1 * AL.2), .int (m.2.2 * R.2 * AL.1)] : HO) = .tup [.int (lossU m.2 R AL).1, .int (lossU m.2 R AL).2] from rfl]
              have s14 := Same.upd (o := .tup [.int (lossU m.2 R AL).1, .int (lossU m.2 R AL).2]) hl14
              have h14 : SqT K (upd HH l14 (.tup [.int (lossU m.2 R AL).1, .int (lossU m.2 R AL).2])) l14 [.int (lossU m.2 R AL).1, .int (lossU m.2 R AL).2] := SqT.of upd_same
              generalize (upd HH l14 (.tup [.int (lossU m.2 R AL).1, .int (lossU m.2 R AL).2])) = H14 at s14 h14 ⊢
              obtain ⟨H15, dp15, x15, t15, hV15⟩ := sh_put (x := m.1) (hVH.same s14) (by omega) h14
              refine ⟨_, rfl, _, rfl, d2, H15, rfl, dp15, ?_⟩
              have hD15 := (hDH.same s14).tkx x15 t15 (Ne.symm nd2)
              have in15 : m.1 ∈ (putS (losU ((othS S g k).take i) R AL) m.1 (lossU m.2 R AL)).map (·.1) := (putS_mem_iff ..).mpr (.inr rfl)
              obtain ⟨p15, dg15, hp15⟩ := sh_getI hV15 in15
              rw [shAt_put, if_pos rfl] at hp15
              have h215 := t15.sq (s14.tup h2)
              refine ⟨_, rfl, _, rfl, _, rfl, d2, _, rfl, dg15, _, rfl, q1, p15, _, _, _, _, -1, rfl, h215, hp15, ⟨mb.1.mono (by decide), mb.2.mono (by decide), bL.1.mono (by decide), bL.2.mono (by decide)⟩, .inr rfl, fun l16 hl16 => ?_⟩
              rw [show (.tup [.int (m.2.1 * (lossU m.2 R AL).2 + -1 * (lossU m.2 R AL).1 * m.2.2), .int (m.2.2 * (lossU m.2 R AL).2)] : HO) = .tup [.int (minU m.2 (lossU m.2 R AL)).1, .int (minU m.2 (lossU m.2 R AL)).2] from rfl]
              have s16 := Same.upd (o := .tup [.int (minU m.2 (lossU m.2 R AL)).1, .int (minU m.2 (lossU m.2 R AL)).2]) hl16
              have h16 : SqT K (upd H15 l16 (.tup [.int (minU m.2 (lossU m.2 R AL)).1, .int (minU m.2 (lossU m.2 R AL)).2])) l16 [.int (minU m.2 (lossU m.2 R AL)).1, .int (minU m.2 (lossU m.2 R AL)).2] := SqT.of upd_same
              generalize (upd H15 l16 (.tup [.int (minU m.2 (lossU m.2 R AL)).1, .int (minU m.2 (lossU m.2 R AL)).2])) = H16 at s16 h16 ⊢
              obtain ⟨H17, dp17, x17, t17, hD17⟩ := sh_put (x := m.1) (hD15.same s16) (by omega) h16
              refine ⟨_, rfl, _, rfl, d, H17, rfl, dp17, ?_⟩
              have hV17 := (hV15.same s16).tkx x17 t17 nd2
              have sX : Same H H15 := fun c o e => x15 c o (fun z => by rw [z, hd20] at e; cases e) ((sH.trans s14) c o e)
              have bN := bd_minU mb.1 mb.2 bL.1 bL.2
              refine ⟨_, _, rfl, S1 (sX.trans s16) x17, (tH.trans s14.tk).trans (t15.trans (s16.tk.trans t17)), x17 _ _ nA (s16 _ _ (x15 _ _ nA2 (s14 _ _ hAH))), ?_, ?_, ?_, ?_⟩
              · rw [cutU_snoc r0 hm]; exact hD17
              · rw [losU_snoc ndO r0 hm]; exact hV17
              · rw [cutU_snoc r0 hm]; exact uH.put _ (minU_pos m0 lp) (bN.1.mono (by decide)) (bN.2.mono (by decide))
              · rw [losU_snoc ndO r0 hm]; exact vH.put _ lp (bL.1.mono (by decide)) (bL.2.mono (by decide))
            · have r0 : ¬ 0 < R.1 := fun z => c1 (decide_eq_true z)
              rw [cutU_none r0] at hDH uH
              rw [losU_none r0] at hVH vH
              exact ⟨_, _, rfl, sH, tH, hAH, by rw [cutU_none r0]; exact hDH, by rw [losU_none r0]; exact hVH, by rw [cutU_none r0]; exact uH, by rw [losU_none r0]; exact vH⟩
          · rintro σ HH ⟨o9, o10, rfl, sH, tH, hAH, hDH, hVH, uH, vH⟩
            rw [la, List.take_length] at hDH hVH uH vH
            have eW : bothS (putS S g (minU (shAt S g) G)) (cutU (othS S g k) R AL) = wouA S g k (t, c) := by unfold wouA; rw [eG, eR, eA]
            rw [eW] at hDH uH
            have lW : (wouA S g k (t, c)).length ≤ 20 := by
              rw [← eW]
              have := bothS_len (cutU (othS S g k) R AL) (putS S g (minU (shAt S g) G))
              have := cutU_len (O := othS S g k) (r := R) (h := AL)
              omega
            have lL : (losU (othS S g k) R AL).length ≤ 8 := Nat.le_trans losU_len (by omega)
            have ek : shAt (wouA S g k (t, c)) k = shAt S k := by
              rw [wouA_at ok, if_neg (fun z => (othS_mem z.1).2.2 rfl), if_neg (Ne.symm hgk)]
            refine ⟨_, rfl, d, rfl, hDH.isDD, _, rfl, len_ok rfl, fun l18 hl18 => ?_⟩
            obtain ⟨ov18, p18, ga18, gb18, hp18⟩ := sh_get2 (x := k) hDH hl18
            refine ⟨ov18, ga18, ?_⟩
            rw [gb18]
            rw [ek] at hp18
            have s18 := Same.upd (o := .tup [.int 0, .int 1]) hl18
            generalize (upd HH l18 (.tup [.int 0, .int 1])) = H18 at hp18 s18 ⊢
            have hpoH := s18.tup (tH.sq hpo13)
            have hprH := s18.tup (tH.sq hpr13)
            refine ⟨_, rfl, _, rfl, po, pr2, _, _, _, _, 1, rfl, hpoH, hprH, ⟨gv.2.1.mono (by decide), gv.2.2.1.mono (by decide), rb1.mono (by decide), rb2.mono (by decide)⟩, .inl rfl, fun l19 hl19 => ?_⟩
            rw [show (.tup [.int (G.1 * R.2 + 1 * R.1 * G.2), .int (G.2 * R.2)] : HO) = .tup [.int (plusU G R).1, .int (plusU G R).2] from rfl]
            have s19 := Same.upd (o := .tup [.int (plusU G R).1, .int (plusU G R).2]) hl19
            have h19 : SqT K (upd H18 l19 (.tup [.int (plusU G R).1, .int (plusU G R).2])) l19 [.int (plusU G R).1, .int (plusU G R).2] := SqT.of upd_same
            generalize (upd H18 l19 (.tup [.int (plusU G R).1, .int (plusU G R).2])) = H19 at s19 h19 ⊢
            have bP := bd_plusU (n := 502) (m := 502) (gv.2.1.mono (by decide)) (gv.2.2.1.mono (by decide)) rb1 rb2
            have pp0 := plusU_pos gv.1 rp
            generalize eP : plusU G R = PL at *
            refine ⟨p18, l19, _, _, _, _, 1, rfl, s19.tup hp18, h19, ⟨zk.2.2.1.mono (by decide), zk.2.2.2.1.mono (by decide), bP.1.mono (by decide), bP.2.mono (by decide)⟩, .inl rfl, fun l20 hl20 => ?_⟩
            rw [show (.tup [.int ((shAt S k).1 * PL.2 + 1 * PL.1 * (shAt S k).2), .int ((shAt S k).2 * PL.2)] : HO) = .tup [.int (plusU (shAt S k) PL).1, .int (plusU (shAt S k) PL).2] from rfl]
            have s20 := Same.upd (o := .tup [.int (plusU (shAt S k) PL).1, .int (plusU (shAt S k) PL).2]) hl20
            have h20 : SqT K (upd H19 l20 (.tup [.int (plusU (shAt S k) PL).1, .int (plusU (shAt S k) PL).2])) l20 [.int (plusU (shAt S k) PL).1, .int (plusU (shAt S k) PL).2] := SqT.of upd_same
            generalize (upd H19 l20 (.tup [.int (plusU (shAt S k) PL).1, .int (plusU (shAt S k) PL).2])) = H20 at s20 h20 ⊢
            have sF := s18.trans (s19.trans s20)
            obtain ⟨H21, dp21, x21, t21, hD21⟩ := sh_put (x := k) (hDH.same sF) (by omega) h20
            refine ⟨_, rfl, _, rfl, d, H21, rfl, dp21, ?_⟩
            have hV21 := (hVH.same sF).tkx x21 t21 nd2
            have bQ := bd_plusU zk.2.2.1 zk.2.2.2.1 bP.1 (bP.2.mono (n := 1005) (by decide))
            have eU : putS (wouA S g k (t, c)) k ((plusU (shAt S k) PL).1, (plusU (shAt S k) PL).2) = wouU S g k (t, c) := by
              unfold wouU
              rw [ek, eG, eR, eP]
            have uF : UOk 6000 (wouU S g k (t, c)) := by
              rw [← eU]
              exact uH.put k (plusU_pos zk.1 pp0) (bQ.1.mono (by decide)) (bQ.2.mono (by decide))
            rw [eU] at hD21
            refine ⟨_, rfl, _, rfl, len_ok rfl, fun l22 hl22 => ?_⟩
            have s22 := Same.upd (o := .tup [.ref d, .ref d2]) hl22
            have pl2 := putS_len (wouA S g k (t, c)) k ((plusU (shAt S k) PL).1, (plusU (shAt S k) PL).2)
            rw [eU] at pl2
            refine q l22 d d2 _ _ _ ((S1 (sH.trans sF) x21).trans s22) hd upd_same (hD21.same s22) (hV21.same s22) uF vH (by omega) (by omega) (fun x => ?_) (fun x => ?_)
            · unfold resD
              rw [if_neg w4, if_neg hgk]
              exact wou_q ok hP hgk hO.b1 hO.b2 x
            · unfold lossD
              rw [if_neg w4, if_neg hgk, ← eR, ← eA]
              exact los_q ok hP hgk hO.b1 hO.b2 x
noncomputable def sp_fraction (K : PySem.W.Frag) (mg : Str → Option Value) : Sp := fun vs H Q E => ∃ (x y : V) (n1 n2 : String), vs = [x, y] ∧ TyOf K H x (.type n1) ∧ TyOf K H y (.type n2) ∧ ((∃ t b : Int, x = .int t ∧ y = .int b ∧ b ≠ 0 ∧ Bd 8000 b ∧ ∀ l p q, IsFr t b p q → H l = none → Q (.ref l) (upd H l (.tup [.int p, .int q]))) ∨ ((isI x = false ∨ isI y = false ∨ y = .int 0) ∧ E (clsV mg "BadFraction") none H))
theorem sc_fraction : FnScope ["top", "bottom"] ["top", "bottom"] (defScope s_fraction) := ⟨rfl, rfl, rfl, by decide +kernel, rfl, by decide +kernel, by decide +kernel⟩
set_option maxHeartbeats 4000000 in
theorem ok_fraction {C_BadFraction : Addr} (T : Tx K mg "fraction" s_fraction ["top", "bottom"]) (B : Bn mg) (d_in_lowest_terms : Df P w K mg base 2 "in_lowest_terms" ["top", "bottom"] (sp_in_lowest_terms K)) (d_is_number : Df P w K mg base 1 "is_number" ["thing"] (sp_is_number K)) (z_BadFraction : ExcCl K mg "BadFraction" C_BadFraction) : DfE P w K mg base 3 "fraction" ["top", "bottom"] (sp_fraction K mg) := by
  refine T.dfE sc_fraction (fun vs H Q E h => ?_) (fun f cdv A outer s H vs Q E hr h => ?_)
  · obtain ⟨x, y, n1, n2, rfl, ty1, ty2, q⟩ := h
    rfl
  · obtain ⟨x, y, n1, n2, rfl, ty1, ty2, q⟩ := h
    refine ⟨_, (pss_cons (ps_if ((pw_or (pt_not (pt_val (pe_df d_is_number hr (pa_cons (pv 0) pa_nil)))) (pw_or1 (pt_not (pt_val (pe_df d_is_number hr (pa_cons (pv 1) pa_nil)))))).pt) (pss_one (ps_raise (W := fun H1 => E (.ref C_BadFraction) none H1) z_BadFraction rfl (pa_cons pe_str pa_nil) (fun _ _ _ _ _ _ _ I hx ee => xe_made I hx ee))) pss_nil)
      (pss_cons (ps_if (pt_cmpR op_eq (pv 1) pe_int (nomark _)) (pss_one (ps_raise (W := fun H1 => E (.ref C_BadFraction) none H1) z_BadFraction rfl (pa_cons pe_str pa_nil) (fun _ _ _ _ _ _ _ I hx ee => xe_made I hx ee))) pss_nil)
      (pss_one (ps_ret (pe_df d_in_lowest_terms hr (pa_cons (pv 0) (pa_cons (pv 1) pa_nil))))))), ?_⟩
    rcases q with ⟨t, b, rfl, rfl, hb, bd, q⟩ | ⟨hz, q⟩
    · refine ⟨_, rfl, _, _, rfl, ty1, _, rfl, iteF ?_⟩
      refine ⟨_, rfl, _, _, rfl, ty2, _, rfl, iteF ?_⟩
      refine ⟨_, rfl, rfl, _, rfl, ?_⟩
      rw [decide_eq_false (show ¬ V.int b = V.int 0 from fun z => hb (V.int.inj z))]
      refine iteF ?_
      refine ⟨_, rfl, _, rfl, t, b, rfl, hb, bd, fun l p r hp hl => ?_⟩
      exact q l p r hp hl
    · rw [clsV_eq z_BadFraction] at q
      refine ⟨_, rfl, _, _, rfl, ty1, _, rfl, ?_⟩
      cases e1 : isI x with
      | false => exact ⟨len_ok rfl, q⟩
      | true =>
        refine iteF ?_
        refine ⟨_, rfl, _, _, rfl, ty2, _, rfl, ?_⟩
        cases e2 : isI y with
        | false => exact ⟨len_ok rfl, q⟩
        | true =>
          refine iteF ?_
          rcases hz with z | z | z
          · rw [e1] at z; cases z
          · rw [e2] at z; cases z
          · subst z
            exact ⟨_, rfl, rfl, _, rfl, len_ok rfl, q⟩
noncomputable def sp_plus (K : PySem.W.Frag) : Sp := fun vs H Q _ => ∃ (x y : Addr) (t b u c : Int), vs = [.ref x, .ref y] ∧ SqT K H x [.int t, .int b] ∧ SqT K H y [.int u, .int c] ∧ (0 < b ∧ 0 < c) ∧ (Bd 4000 t ∧ Bd 4000 b ∧ Bd 4000 u ∧ Bd 4000 c) ∧ ∀ l H', Same H H' → H' l = some (.tup [.int (frT (t * c + u * b) (b * c)), .int (frB (t * c + u * b) (b * c))]) → Q (.ref l) H'
theorem sc_plus : FnScope ["one", "other"] ["one", "other"] (defScope s_plus) := ⟨rfl, rfl, rfl, by decide +kernel, rfl, by decide +kernel, by decide +kernel⟩
set_option maxHeartbeats 4000000 in
theorem ok_plus (T : Tx K mg "plus" s_plus ["one", "other"]) (B : Bn mg) (d_in_lowest_terms : Df P w K mg base 2 "in_lowest_terms" ["top", "bottom"] (sp_in_lowest_terms K)) : Df P w K mg base 3 "plus" ["one", "other"] (sp_plus K) := by
  refine T.df sc_plus (fun vs H Q E h => ?_) (fun f cdv A outer s H vs Q E hr h => ?_)
  · obtain ⟨x, y, t, b, u, c, rfl, hx, hy, ⟨hb, hc⟩, ⟨t1, t2, t3, t4⟩, q⟩ := h
    rfl
  · obtain ⟨x, y, t, b, u, c, rfl, hx, hy, ⟨hb, hc⟩, ⟨t1, t2, t3, t4⟩, q⟩ := h
    refine ⟨_, (pss_one (ps_ret (pe_df d_in_lowest_terms hr (pa_cons (pe_op op_add (pe_op op_mulB (pe_ix ix_tup (pv 0) pe_int (fun _ _ => rfl)) (pe_ix ix_tup (pv 1) pe_int (fun _ _ => rfl))) (pe_op op_mulB (pe_ix ix_tup (pv 1) pe_int (fun _ _ => rfl)) (pe_ix ix_tup (pv 0) pe_int (fun _ _ => rfl)))) (pa_cons (pe_op op_mulB (pe_ix ix_tup (pv 0) pe_int (fun _ _ => rfl)) (pe_ix ix_tup (pv 1) pe_int (fun _ _ => rfl))) pa_nil))))), ?_⟩
    have B20 : ∀ {z : Int}, Bd 4000 z → Bd 20000 z := fun h => h.mono (by decide)
    have hbc : 0 < b * c := Int.mul_pos hb hc
    have bdb : Bd 8000 (b * c) := t2.mul t4
    refine ⟨_, rfl, x, _, _, _, rfl, rfl, hx, (atI_nat (j := 0) rfl), _, rfl, y, _, _, _, rfl, rfl, hy, (atI_nat (j := 1) rfl), _, _, rfl, rfl, ⟨B20 t1, B20 t4⟩, _, rfl, y, _, _, _, rfl, rfl, hy, (atI_nat (j := 0) rfl), _, rfl, x, _, _, _, rfl, rfl, hx, (atI_nat (j := 1) rfl), _, _, rfl, rfl, ⟨B20 t3, B20 t2⟩, _, _, rfl, rfl, _, rfl, x, _, _, _, rfl, rfl, hx, (atI_nat (j := 1) rfl), _, rfl, y, _, _, _, rfl, rfl, hy, (atI_nat (j := 1) rfl), _, _, rfl, rfl, ⟨B20 t2, B20 t4⟩, _, _, rfl, by omega, bdb.mono (by decide), fun l p r hp hl => ?_⟩
    obtain ⟨rfl, rfl⟩ := hp.fr hbc
    exact q l _ (Same.upd hl) upd_same
noncomputable def sp_minus (K : PySem.W.Frag) : Sp := fun vs H Q _ => ∃ (x y : Addr) (t b u c : Int), vs = [.ref x, .ref y] ∧ SqT K H x [.int t, .int b] ∧ SqT K H y [.int u, .int c] ∧ (0 < b ∧ 0 < c) ∧ (Bd 4000 t ∧ Bd 4000 b ∧ Bd 4000 u ∧ Bd 4000 c) ∧ ∀ l H', Same H H' → H' l = some (.tup [.int (frT (t * c - u * b) (b * c)), .int (frB (t * c - u * b) (b * c))]) → Q (.ref l) H'
theorem sc_minus : FnScope ["one", "other"] ["one", "other"] (defScope s_minus) := ⟨rfl, rfl, rfl, by decide +kernel, rfl, by decide +kernel, by decide +kernel⟩
set_option maxHeartbeats 4000000 in
theorem ok_minus (T : Tx K mg "minus" s_minus ["one", "other"]) (B : Bn mg) (d_in_lowest_terms : Df P w K mg base 2 "in_lowest_terms" ["top", "bottom"] (sp_in_lowest_terms K)) : Df P w K mg base 3 "minus" ["one", "other"] (sp_minus K) := by
  refine T.df sc_minus (fun vs H Q E h => ?_) (fun f cdv A outer s H vs Q E hr h => ?_)
  · obtain ⟨x, y, t, b, u, c, rfl, hx, hy, ⟨hb, hc⟩, ⟨t1, t2, t3, t4⟩, q⟩ := h
    rfl
  · obtain ⟨x, y, t, b, u, c, rfl, hx, hy, ⟨hb, hc⟩, ⟨t1, t2, t3, t4⟩, q⟩ := h
    refine ⟨_, (pss_one (ps_ret (pe_df d_in_lowest_terms hr (pa_cons (pe_op op_sub (pe_op op_mulB (pe_ix ix_tup (pv 0) pe_int (fun _ _ => rfl)) (pe_ix ix_tup (pv 1) pe_int (fun _ _ => rfl))) (pe_op op_mulB (pe_ix ix_tup (pv 1) pe_int (fun _ _ => rfl)) (pe_ix ix_tup (pv 0) pe_int (fun _ _ => rfl)))) (pa_cons (pe_op op_mulB (pe_ix ix_tup (pv 0) pe_int (fun _ _ => rfl)) (pe_ix ix_tup (pv 1) pe_int (fun _ _ => rfl))) pa_nil))))), ?_⟩
    have B20 : ∀ {z : Int}, Bd 4000 z → Bd 20000 z := fun h => h.mono (by decide)
    have hbc : 0 < b * c := Int.mul_pos hb hc
    have bdb : Bd 8000 (b * c) := t2.mul t4
    refine ⟨_, rfl, x, _, _, _, rfl, rfl, hx, (atI_nat (j := 0) rfl), _, rfl, y, _, _, _, rfl, rfl, hy, (atI_nat (j := 1) rfl), _, _, rfl, rfl, ⟨B20 t1, B20 t4⟩, _, rfl, y, _, _, _, rfl, rfl, hy, (atI_nat (j := 0) rfl), _, rfl, x, _, _, _, rfl, rfl, hx, (atI_nat (j := 1) rfl), _, _, rfl, rfl, ⟨B20 t3, B20 t2⟩, _, _, rfl, rfl, _, rfl, x, _, _, _, rfl, rfl, hx, (atI_nat (j := 1) rfl), _, rfl, y, _, _, _, rfl, rfl, hy, (atI_nat (j := 1) rfl), _, _, rfl, rfl, ⟨B20 t2, B20 t4⟩, _, _, rfl, by omega, bdb.mono (by decide), fun l p r hp hl => ?_⟩
    obtain ⟨rfl, rfl⟩ := hp.fr hbc
    exact q l _ (Same.upd hl) upd_same
noncomputable def sp_product (K : PySem.W.Frag) : Sp := fun vs H Q _ => ∃ (x y : Addr) (t b u c : Int), vs = [.ref x, .ref y] ∧ SqT K H x [.int t, .int b] ∧ SqT K H y [.int u, .int c] ∧ (0 < b ∧ 0 < c) ∧ (Bd 4000 t ∧ Bd 4000 b ∧ Bd 4000 u ∧ Bd 4000 c) ∧ ∀ l H', Same H H' → H' l = some (.tup [.int (frT (t * u) (b * c)), .int (frB (t * u) (b * c))]) → Q (.ref l) H'
theorem sc_product : FnScope ["one", "other"] ["one", "other"] (defScope s_product) := ⟨rfl, rfl, rfl, by decide +kernel, rfl, by decide +kernel, by decide +kernel⟩
set_option maxHeartbeats 4000000 in
theorem ok_product (T : Tx K mg "product" s_product ["one", "other"]) (B : Bn mg) (d_in_lowest_terms : Df P w K mg base 2 "in_lowest_terms" ["top", "bottom"] (sp_in_lowest_terms K)) : Df P w K mg base 3 "product" ["one", "other"] (sp_product K) := by
  refine T.df sc_product (fun vs H Q E h => ?_) (fun f cdv A outer s H vs Q E hr h => ?_)
  · obtain ⟨x, y, t, b, u, c, rfl, hx, hy, ⟨hb, hc⟩, ⟨t1, t2, t3, t4⟩, q⟩ := h
    rfl
  · obtain ⟨x, y, t, b, u, c, rfl, hx, hy, ⟨hb, hc⟩, ⟨t1, t2, t3, t4⟩, q⟩ := h
    refine ⟨_, (pss_one (ps_ret (pe_df d_in_lowest_terms hr (pa_cons (pe_op op_mulB (pe_ix ix_tup (pv 0) pe_int (fun _ _ => rfl)) (pe_ix ix_tup (pv 1) pe_int (fun _ _ => rfl))) (pa_cons (pe_op op_mulB (pe_ix ix_tup (pv 0) pe_int (fun _ _ => rfl)) (pe_ix ix_tup (pv 1) pe_int (fun _ _ => rfl))) pa_nil))))), ?_⟩
    have B20 : ∀ {z : Int}, Bd 4000 z → Bd 20000 z := fun h => h.mono (by decide)
    have hbc : 0 < b * c := Int.mul_pos hb hc
    have bdb : Bd 8000 (b * c) := t2.mul t4
    refine ⟨_, rfl, x, _, _, _, rfl, rfl, hx, (atI_nat (j := 0) rfl), _, rfl, y, _, _, _, rfl, rfl, hy, (atI_nat (j := 0) rfl), _, _, rfl, rfl, ⟨B20 t1, B20 t3⟩, _, rfl, x, _, _, _, rfl, rfl, hx, (atI_nat (j := 1) rfl), _, rfl, y, _, _, _, rfl, rfl, hy, (atI_nat (j := 1) rfl), _, _, rfl, rfl, ⟨B20 t2, B20 t4⟩, _, _, rfl, by omega, bdb.mono (by decide), fun l p r hp hl => ?_⟩
    obtain ⟨rfl, rfl⟩ := hp.fr hbc
    exact q l _ (Same.upd hl) upd_same
noncomputable def sp_quotient (K : PySem.W.Frag) : Sp := fun vs H Q _ => ∃ (x y : Addr) (t b u c : Int), vs = [.ref x, .ref y] ∧ SqT K H x [.int t, .int b] ∧ SqT K H y [.int u, .int c] ∧ (0 < b ∧ 0 < c) ∧ (Bd 4000 t ∧ Bd 4000 b ∧ Bd 4000 u ∧ Bd 4000 c) ∧ 0 < u ∧ ∀ l H', Same H H' → H' l = some (.tup [.int (quotF (t, b) (u, c)).1, .int (quotF (t, b) (u, c)).2]) → Q (.ref l) H'
theorem sc_quotient : FnScope ["one", "other"] ["one", "other"] (defScope s_quotient) := ⟨rfl, rfl, rfl, by decide +kernel, rfl, by decide +kernel, by decide +kernel⟩
set_option maxHeartbeats 4000000 in
theorem ok_quotient (T : Tx K mg "quotient" s_quotient ["one", "other"]) (B : Bn mg) (d_in_lowest_terms : Df P w K mg base 2 "in_lowest_terms" ["top", "bottom"] (sp_in_lowest_terms K)) : Df P w K mg base 3 "quotient" ["one", "other"] (sp_quotient K) := by
  refine T.df sc_quotient (fun vs H Q E h => ?_) (fun f cdv A outer s H vs Q E hr h => ?_)
  · obtain ⟨x, y, t, b, u, c, rfl, hx, hy, ⟨hb, hc⟩, ⟨t1, t2, t3, t4⟩, hu0, q⟩ := h
    rfl
  · obtain ⟨x, y, t, b, u, c, rfl, hx, hy, ⟨hb, hc⟩, ⟨t1, t2, t3, t4⟩, hu0, q⟩ := h
    refine ⟨_, (pss_one (ps_ret (pe_df d_in_lowest_terms hr (pa_cons (pe_op op_mulB (pe_ix ix_tup (pv 0) pe_int (fun _ _ => rfl)) (pe_ix ix_tup (pv 1) pe_int (fun _ _ => rfl))) (pa_cons (pe_op op_mulB (pe_ix ix_tup (pv 0) pe_int (fun _ _ => rfl)) (pe_ix ix_tup (pv 1) pe_int (fun _ _ => rfl))) pa_nil))))), ?_⟩
    have B20 : ∀ {z : Int}, Bd 4000 z → Bd 20000 z := fun h => h.mono (by decide)
    have hbc : 0 < b * u := Int.mul_pos hb hu0
    have bdb : Bd 8000 (b * u) := t2.mul t3
    refine ⟨_, rfl, x, _, _, _, rfl, rfl, hx, (atI_nat (j := 0) rfl), _, rfl, y, _, _, _, rfl, rfl, hy, (atI_nat (j := 1) rfl), _, _, rfl, rfl, ⟨B20 t1, B20 t4⟩, _, rfl, x, _, _, _, rfl, rfl, hx, (atI_nat (j := 1) rfl), _, rfl, y, _, _, _, rfl, rfl, hy, (atI_nat (j := 0) rfl), _, _, rfl, rfl, ⟨B20 t2, B20 t3⟩, _, _, rfl, by omega, bdb.mono (by decide), fun l p r hp hl => ?_⟩
    obtain ⟨rfl, rfl⟩ := hp.fr hbc
    exact q l _ (Same.upd hl) upd_same
noncomputable def sp_law_owned (K : PySem.W.Frag) : Sp := fun vs H Q _ => ∃ (a n : Addr) (ns : List Int) (ss : List Str) (k : Nat), vs = [.ref a, .ref n, .int k] ∧ SqL K H a (ns.map V.int) ∧ SqL K H n (ss.map V.str) ∧ ss.length = 8 ∧ (∀ s ∈ ss, IsNm s) ∧ k ≤ 1000 ∧ ∀ l S H', Same H H' → ShF K H' l S → Owned 10000000000000000000000000000000000000000000000000000000000 S → (∀ p ∈ S, p.1 ∈ ss) → Q (.ref l) H'
theorem sc_law_owned : FnScope ["_law_script", "_law_names_here", "_law_k", "_law_bound", "_law_held", "_law_i", "_law_total"] ["_law_script", "_law_names_here", "_law_k"] (defScope s_law_owned) := ⟨rfl, rfl, rfl, by decide +kernel, rfl, by decide +kernel, by decide +kernel⟩
set_option maxHeartbeats 4000000 in
theorem ok_law_owned (T : Tx K mg "_law_owned" s_law_owned ["_law_script", "_law_names_here", "_law_k"]) (B : Bn mg) (d_law_cell : Df P w K mg base 1 "_law_cell" ["_law_script", "_law_k", "_law_many"] (sp_law_cell K)) (d_law_fraction : Df P w K mg base 2 "_law_fraction" ["_law_top", "_law_bottom"] (sp_law_fraction K)) (b_sum : mg "sum" = none) : Df P w K mg base 3 "_law_owned" ["_law_script", "_law_names_here", "_law_k"] (sp_law_owned K) := by
  refine T.df sc_law_owned (fun vs H Q E h => ?_) (fun f cdv A outer s H vs Q E hr h => ?_)
  · obtain ⟨a, n, ns, ss, k, rfl, hS, hN, h8, hs, hk, q⟩ := h
    rfl
  · obtain ⟨a, n, ns, ss, k, rfl, hS, hN, h8, hs, hk, q⟩ := h
    have hu := hr.units
    refine ⟨_, (pss_cons (ps_set (i := 3) sc_law_owned.nd rfl (by first | exact Or.inl rfl | exact Or.inr rfl) (pe_ix ix_list (pe_lst (pa_cons pe_int (pa_cons (pe_op op_pow pe_int pe_int) (pa_cons (pe_op op_pow pe_int pe_int) (pa_cons pe_int (pa_cons pe_int (pa_cons (pe_op op_pow pe_int pe_int) pa_nil))))))) (pe_df d_law_cell hr (pa_cons (pv 0) (pa_cons (pe_op op_add (pv 2) pe_int) (pa_cons pe_int pa_nil)))) (fun _ _ => rfl)))
      (pss_cons (ps_set (i := 4) sc_law_owned.nd rfl (by first | exact Or.inl rfl | exact Or.inr rfl) pe_dnewK)
      (pss_cons (ps_for PassesOwn.never rfl (pi_range1 (by rfl) B.range (pa_cons (pe_op op_add pe_int (pe_df d_law_cell hr (pa_cons (pv 0) (pa_cons (pv 2) (pa_cons pe_int pa_nil))))) pa_nil)) (pg_name (i := 5) sc_law_owned.nd rfl (by first | exact Or.inl rfl | exact Or.inr rfl)) (pss_one (ps_dput (hu_of hr) (pv 4) (pe_ix ix_list (pv 1) (pv 5) (fun _ _ => rfl)) (pe_op op_add pe_int (pe_df d_law_cell hr (pa_cons (pv 0) (pa_cons (pe_op op_add (pe_op op_add (pv 2) pe_int) (pv 5)) (pa_cons (pv 3) pa_nil))))) rfl)))
      (pss_cons (ps_set (i := 6) sc_law_owned.nd rfl (by first | exact Or.inl rfl | exact Or.inr rfl) (pe_callB (call_sumL rfl) (by rfl) b_sum boot_sum (pa_cons (pe_callTy (call_listV rfl) (by rfl) B.list boot_list (pa_cons (pe_bm0 PySem.F.plainAttrs_dict PySem.F.slot_dict_values PySem.F.type_dict_values mt_values (pv 4)) pa_nil)) pa_nil)))
      (pss_one (ps_ret (pe_callTy call_tupF (by rfl) B.tuple boot_tuple (pa_cons (pe_lcomp ["_law_name"] [("_law_held", 4), ("_law_total", 6)] (clOf _ ["_law_total", "_law_held"]) rfl (by rfl) rfl (by decide +kernel) (by decide +kernel) (clOf_cells (by rfl)) (kin_of (by rfl)) (fun p hp => by
        cases hp with
        | head => exact ⟨rfl, rfl⟩
        | tail _ hp => exact (by
        cases hp with
        | head => exact ⟨rfl, rfl⟩
        | tail _ hp => exact (by cases hp))) (fun p hp => by
        cases hp with
        | head => exact rfl
        | tail _ hp => exact (by
        cases hp with
        | head => exact rfl
        | tail _ hp => exact (by cases hp))) (wk_name (by decide)) (pi_list (pe_callB (call_srtDS rfl) (by rfl) B.sorted (by decide +kernel) (pa_cons (pv 4) pa_nil))) (fun _ _ _ _ => pg_name (i := 0) (show (["_law_name", "_law_held", "_law_total"] : List Str).Nodup by decide +kernel) rfl (Or.inl rfl) (Or.inr rfl)) (fun _ _ _ _ => pifs_nil) (fun _ _ _ _ => (pe_tup (pa_cons (pv 0) (pa_cons (pe_df d_law_fraction hr (pa_cons (pe_dget (hu_of hr) (pv 1) (pv 0) (fun _ _ => rfl)) (pa_cons (pv 2) pa_nil))) pa_nil))))) pa_nil)))))))), ?_⟩
    refine ⟨_, _, rfl, rfl, ⟨by decide, by decide, by decide⟩, _, _, rfl, rfl, ⟨by decide, by decide, by decide⟩, _, _, rfl, rfl, ⟨by decide, by decide, by decide⟩, len_ok rfl, fun l0 hl0 => ?_⟩
    have s0 := Same.upd (o := .lst [V.int 9, V.int (10 ^ (6 : Int).toNat), V.int (10 ^ (58 : Int).toNat), V.int 9, V.int 9, V.int (10 ^ (6 : Int).toNat)]) hl0
    refine ⟨_, rfl, _, rfl, _, _, rfl, rfl, a, ns, k + 1, 6, rfl, s0.seq hS, by omega, by decide, ?_⟩
    obtain ⟨v, hv, v0, v1⟩ : ∃ v : Int, atI [V.int 9, V.int (10 ^ (6 : Int).toNat), V.int (10 ^ (58 : Int).toNat), V.int 9, V.int 9, V.int (10 ^ (6 : Int).toNat)] (cellV ns (k + 1) 6) = some (.int v) ∧ 0 < v ∧ v ≤ 10000000000000000000000000000000000000000000000000000000000 := by
      have h1 := cellV_nn ns (k + 1) (m := 6) (by decide)
      have h2 := cellV_lt ns (k + 1) (m := 6) (by decide)
      rcases (show cellV ns (k + 1) 6 = 0 ∨ cellV ns (k + 1) 6 = 1 ∨ cellV ns (k + 1) 6 = 2 ∨ cellV ns (k + 1) 6 = 3 ∨ cellV ns (k + 1) 6 = 4 ∨ cellV ns (k + 1) 6 = 5 by omega) with z | z | z | z | z | z
      · rw [z]; exact ⟨9, rfl, by decide, by decide⟩
      · rw [z]; exact ⟨10 ^ (6 : Int).toNat, rfl, by decide, by decide⟩
      · rw [z]; exact ⟨10 ^ (58 : Int).toNat, rfl, by decide, by decide⟩
      · rw [z]; exact ⟨9, rfl, by decide, by decide⟩
      · rw [z]; exact ⟨9, rfl, by decide, by decide⟩
      · rw [z]; exact ⟨10 ^ (6 : Int).toNat, rfl, by decide, by decide⟩
    refine ⟨l0, _, _, _, rfl, rfl, SqL.of upd_same, hv, ?_⟩
    clear hv
    generalize (upd H l0 (.lst [V.int 9, V.int (10 ^ (6 : Int).toNat), V.int (10 ^ (58 : Int).toNat), V.int 9, V.int 9, V.int (10 ^ (6 : Int).toNat)])) = H1 at s0 ⊢
    have hS1 := s0.seq hS
    have hN1 := s0.seq hN
    intro d hd
    have c0 := cellV_nn ns k (m := 7) (by decide)
    have c1 := cellV_lt ns k (m := 7) (by decide)
    refine ⟨_, rfl, _, rfl, a, ns, k, 7, rfl, (Same.upd hd).seq hS1, by omega, by decide, _, _, rfl, rfl, _, rfl, by omega, by omega, ?_⟩
    refine for_range (lo := 0) (fun i σ H2 => ∃ (o5 : Option V) (ws : Ws), σ = [some (.ref a), some (.ref n), some (.int k), some (.int v), some (.ref d), o5, none] ∧ H2 = upd H1 d (.dK (wsK ws)) ∧ WsOk 10000000000000000000000000000000000000000000000000000000000 ws ∧ ws.length ≤ i ∧ (0 < i → 1 ≤ ws.length) ∧ ∀ p ∈ ws, p.1 ∈ ss)
      ⟨none, [], rfl, rfl, ⟨by simp, fun _ z => nomatch z⟩, Nat.le_refl _, fun z => absurd z (by decide), fun _ z => nomatch z⟩ ?_ ?_
    · rintro i σ H2 hi ⟨o5, ws, rfl, rfl, ok, wl, _, win⟩
      have hi8 : i < 8 := by omega
      obtain ⟨x, hx⟩ : ∃ x, ss[i]? = some x := ⟨ss[i]'(by omega), by simp⟩
      have hat : atI (ss.map V.str) (0 + (i : Int)) = some (.str x) := by
        rw [show (0 : Int) + (i : Int) = ((i : Nat) : Int) by omega]
        exact atI_nat (by rw [List.getElem?_map, hx]; rfl)
      have sd := Same.upd (o := .dK (wsK ws)) hd
      have e0 := cellV_nn ns (k + 2 + (0 + i)) v0
      have e1 := cellV_lt ns (k + 2 + (0 + i)) v0
      refine ⟨_, rfl, _, rfl, _, _, rfl, rfl, _, rfl, _, _, rfl, rfl, _, rfl, a, ns, k + 2 + (0 + i), v, rfl, sd.seq hS1, by omega, v0, _, _, rfl, rfl, ?_⟩
      refine ⟨_, rfl, _, rfl, _, rfl, n, _, _, _, rfl, rfl, sd.seq hN1, hat, d, _, rfl, DPut.k (k := Sum.inr x) upd_same ?_, ?_⟩
      · unfold wsK
        rw [List.length_map]
        exact small1000 (by omega)
      · have pl := putW_len ws x (1 + cellV ns (k + 2 + (0 + i)) v)
        refine ⟨_, putW ws x (1 + cellV ns (k + 2 + (0 + i)) v), rfl, ?_, ok.put (hs x (List.mem_of_getElem? hx)) (by omega) (by omega), by omega, fun _ => pl.1, fun q hq => ?_⟩
        · rw [upd_upd, put_ws]
        · have m := List.mem_map_of_mem (f := (·.1)) hq
          rw [putW_names] at m
          have old : q.1 ∈ ws.map (·.1) → q.1 ∈ ss := fun z => by
            obtain ⟨u, hu, e⟩ := List.mem_map.mp z
            rw [← e]
            exact win u hu
          split at m
          · exact old m
          · rcases List.mem_append.mp m with z | z
            · exact old z
            · rw [List.mem_singleton.mp z]; exact List.mem_of_getElem? hx
    · rintro σ H2 ⟨o5, ws, rfl, rfl, ok, wl, w1, win⟩
      have w1' := w1 (by omega)
      have wl' : ws.length ≤ 7 := by omega
      have tw := totW_le fun p hp => (ok.ok p hp).2
      have t0 : 0 < totW ws := by omega
      have tb : Bd 8000 (totW ws) := Bd.mono (m := 250) (bd_le (by omega) (by
        have := Int.mul_le_mul_of_nonneg_left (c := (10000000000000000000000000000000000000000000000000000000000 : Int)) (show (ws.length : Int) ≤ 7 by omega) (by decide)
        omega)) (by decide)
      have em : (wsK ws).map (·.2) = (ws.map (·.2)).map V.int := by unfold wsK; rw [List.map_map, List.map_map]; rfl
      have ek : ((wsK ws).map fun p => kV p.1) = (ws.map (·.1)).map V.str := by unfold wsK; rw [List.map_map, List.map_map]; rfl
      refine ⟨_, rfl, .inr (.inr (.inl ⟨rfl, .inl ⟨_, upd_same⟩⟩)), d, _, rfl, rfl, upd_same, fun w hw => ?_⟩
      have sw := Same.upd (o := ValO w d) hw
      refine ⟨w, d, _, rfl, upd_same, .inl (sw _ _ upd_same), fun l1 hl1 => ?_⟩
      have sl1 := Same.upd (o := .lst ((wsK ws).map (·.2))) hl1
      refine ⟨l1, ws.map (·.2), rfl, by rw [← em]; exact SqL.of upd_same, ?_⟩
      have s3 := (Same.upd (o := .dK (wsK ws)) hd).trans (sw.trans sl1)
      have hd3 := (sw.trans sl1) _ _ (upd_same (H := H1) (a := d) (o := .dK (wsK ws)))
      generalize (upd (upd (upd H1 d (.dK (wsK ws))) w (ValO w d)) l1 (.lst ((wsK ws).map (·.2)))) = H3 at s3 hd3 ⊢
      refine ⟨_, rfl, d, _, ws.map (·.1), rfl, .inl hd3, ek, by rw [List.length_map]; omega, fun l2 ss' hl2 pm so => ?_⟩
      have sl2 := Same.upd (o := .lst (ss'.map V.str)) hl2
      refine ⟨l2, rfl, ⟨_, SqL.of upd_same⟩, fun D hD => ?_⟩
      have hl4 : upd H3 l2 (.lst (ss'.map V.str)) l2 = some (.lst (ss'.map V.str)) := upd_same
      have hd4 := sl2 _ _ hd3
      generalize (upd H3 l2 (.lst (ss'.map V.str))) = H4 at sl2 hl4 hd4 hD ⊢
      have len' : ss'.length ≤ 7 := by rw [pm.length_eq, List.length_map]; omega
      refine compL (K := K) (a := l2) (xs := ss'.map V.str) (fun i acc H5 => Same H4 H5 ∧ H5 D = some (.lst acc) ∧ Paired (ShE K H5) acc (ownS ws (ss'.take i))) ⟨Same.upd hD, upd_same, .nil⟩ (fun i acc H5 _ ⟨e, _⟩ => SqL.of (e _ _ hl4)) ?_ ?_
      · rintro i y acc H5 hi5 ⟨s5, hD5, pr⟩
        obtain ⟨x, hx, rfl⟩ : ∃ x, ss'[i]? = some x ∧ V.str x = y := by
          rw [List.getElem?_map] at hi5
          cases e : ss'[i]? with
          | none => rw [e] at hi5; cases hi5
          | some x => rw [e] at hi5; exact ⟨x, rfl, Option.some.inj hi5⟩
        have hin : x ∈ ws.map (·.1) := pm.mem_iff.mp (List.mem_of_getElem? hx)
        obtain ⟨hval, _⟩ := val_in hin
        refine ⟨_, rfl, _, rfl, _, rfl, d, _, rfl, by rw [← hval]; exact DGet.k (k := Sum.inr x) (s5 _ _ hd4), ?_⟩
        refine ⟨_, rfl, _, _, rfl, t0, tb, fun q1 hq1 => ?_⟩
        have sq := Same.upd (o := .tup [.int (frT (wOf ws x) (totW ws)), .int (frB (wOf ws x) (totW ws))]) hq1
        refine ⟨len_ok rfl, fun r1 hr1 => ?_⟩
        have sr := Same.upd (o := .tup [.str x, .ref q1]) hr1
        have sqr := sq.trans sr
        refine ⟨sqr _ _ hD5, ?_, ?_, upd_same, ?_⟩
        · rw [Paired.length pr]
          unfold ownS
          rw [List.length_map, List.length_take]
          exact small1000 (by omega)
        · intro b o e
          rw [upd_ne (fun z => by rw [z, hD] at e; cases e)]
          exact sqr _ _ (s5 _ _ e)
        · rw [List.take_add_one, hx, Option.toList_some]
          unfold ownS
          rw [List.map_append]
          refine Paired.app (Paired.imp (fun _ _ z => (z.same sqr).tk (TK.lst (sqr _ _ hD5))) pr) (.cons ?_ .nil)
          have hq' := sr _ _ (upd_same (H := H5) (a := q1) (o := .tup [.int (frT (wOf ws x) (totW ws)), .int (frB (wOf ws x) (totW ws))]))
          exact ShE.tk (TK.lst (sqr _ _ hD5)) ⟨r1, q1, rfl, SqT.of upd_same, SqT.of hq'⟩
      · rintro acc H5 ⟨s5, hD5, pr⟩
        rw [List.length_map, List.take_length] at pr
        refine ⟨D, _, rfl, SqL.of hD5, fun l ob hl pl => ?_⟩
        have sl := Same.upd (o := .frz ob (.tup acc)) hl
        exact q l (ownS ws ss') _ (s0.trans (s3.trans (sl2.trans (s5.trans sl)))) ⟨ob, acc, pl, upd_same, Paired.imp (fun _ _ z => ShE.same sl z) pr⟩ ⟨ws, ss', ok, ⟨w1', wl'⟩, pm, so, rfl⟩ fun q hq => by
          unfold ownS at hq
          obtain ⟨x, hx, rfl⟩ := List.mem_map.mp hq
          obtain ⟨u, hu, e⟩ := List.mem_map.mp (pm.mem_iff.mp hx)
          show x ∈ ss
          rw [← e]
          exact win u hu
noncomputable def sp_law_deed (K : PySem.W.Frag) : Sp := fun vs H Q _ => ∃ (c : Int) (ls n : Addr) (S : Sh) (ss : List Str), vs = [.int c, .ref ls, .ref n] ∧ ShF K H ls S ∧ (S.map (·.1)).Nodup ∧ (∀ p ∈ S, FrOk p.2 ∧ 0 < p.2.1 ∧ Bd 250 p.2.1 ∧ Bd 250 p.2.2) ∧ SqL K H n (ss.map V.str) ∧ ss.length = 8 ∧ ∀ r y p H' (way many t b : Int) (g k : Str), Same H H' → H' r = some (.tup [.int way, .str g, .str k, .ref p, .int many]) → SqT K H' p [.int t, .int b] → y = (t, b) → (0 < t ∧ FrOk (t, b) ∧ Bd 250 t ∧ Bd 250 b) → (0 ≤ way ∧ way < 5) → (1 ≤ many ∧ many ≤ 64) → (g ∈ ss ∧ k ∈ ss) → Q (.ref r) H'
theorem sc_law_deed : FnScope ["_law_cell_here", "_law_shares", "_law_names_here", "_law_way", "_law_giver", "_law_taker", "_law_few", "_law_part"] ["_law_cell_here", "_law_shares", "_law_names_here"] (defScope s_law_deed) := ⟨rfl, rfl, rfl, by decide +kernel, rfl, by decide +kernel, by decide +kernel⟩
set_option maxHeartbeats 4000000 in
theorem ok_law_deed (T : Tx K mg "_law_deed" s_law_deed ["_law_cell_here", "_law_shares", "_law_names_here"]) (B : Bn mg) (d_law_fraction : Df P w K mg base 2 "_law_fraction" ["_law_top", "_law_bottom"] (sp_law_fraction K)) : Df P w K mg base 3 "_law_deed" ["_law_cell_here", "_law_shares", "_law_names_here"] (sp_law_deed K) := by
  refine T.df sc_law_deed (fun vs H Q E h => ?_) (fun f cdv A outer s H vs Q E hr h => ?_)
  · obtain ⟨c, ls, n, S, ss, rfl, hF, nd, hp, hN, h8, q⟩ := h
    rfl
  · obtain ⟨c, ls, n, S, ss, rfl, hF, nd, hp, hN, h8, q⟩ := h
    have hu := hr.units
    refine ⟨_, (@pss_cons _ _ _ _ _ (@ps_set _ _ 0 _ _ _ _ sc_law_deed.nd rfl (by first | exact Or.inl rfl | exact Or.inr rfl) (pe_op op_mod (pv 0) (pe_op op_pow pe_int pe_int)) rfl (by first | exact .inl rfl | exact .inr rfl))
      (@pss_cons _ _ _ _ _ (@ps_set _ _ 3 _ _ _ _ sc_law_deed.nd rfl (by first | exact Or.inl rfl | exact Or.inr rfl) (pe_op op_mod (pe_op op_fdiv (pe_op op_mod (pe_op op_mul (pv 0) pe_int) pe_int) pe_int) pe_int) rfl (by first | exact .inl rfl | exact .inr rfl))
      (@pss_cons _ _ _ _ _ (@ps_set _ _ 4 _ _ _ _ sc_law_deed.nd rfl (by first | exact Or.inl rfl | exact Or.inr rfl) (@pe_ix _ _ _ _ _ _ _ ix_list (pv 2) (pe_op op_mod (pe_op op_fdiv (pe_op op_mod (pe_op op_mul (pv 0) pe_int) pe_int) pe_int) pe_int) (fun _ _ => rfl)) rfl (by first | exact .inl rfl | exact .inr rfl))
      (@pss_cons _ _ _ _ _ (@ps_set _ _ 5 _ _ _ _ sc_law_deed.nd rfl (by first | exact Or.inl rfl | exact Or.inr rfl) (@pe_ix _ _ _ _ _ _ _ ix_list (pv 2) (pe_op op_mod (pe_op op_fdiv (pe_op op_mod (pe_op op_mul (pv 0) pe_int) pe_int) pe_int) pe_int) (fun _ _ => rfl)) rfl (by first | exact .inl rfl | exact .inr rfl))
      (@pss_cons _ _ _ _ _ (@ps_set _ _ 6 _ _ _ _ sc_law_deed.nd rfl (by first | exact Or.inl rfl | exact Or.inr rfl) (pe_op op_add pe_int (pe_op op_mod (pe_op op_fdiv (pe_op op_mod (pe_op op_mul (pv 0) pe_int) pe_int) pe_int) (@pe_ix _ _ _ _ _ _ _ ix_list (@pe_lst _ _ _ _ (@pa_cons _ _ _ _ _ pe_int (@pa_cons _ _ _ _ _ pe_int (@pa_cons _ _ _ _ _ pe_int (@pa_cons _ _ _ _ _ pe_int (@pa_cons _ _ _ _ _ pe_int (@pa_cons _ _ _ _ _ pe_int (@pa_cons _ _ _ _ _ pe_int (@pa_cons _ _ _ _ _ (pe_op op_pow pe_int pe_int) pa_nil rfl) rfl) rfl) rfl) rfl) rfl) rfl) rfl)) (pe_op op_mod (pv 0) pe_int) (fun _ _ => rfl)))) rfl (by first | exact .inl rfl | exact .inr rfl))
      (@pss_cons _ _ _ _ _ (@ps_set _ _ 7 _ _ _ _ sc_law_deed.nd rfl (by first | exact Or.inl rfl | exact Or.inr rfl) (pe_df d_law_fraction hr (@pa_cons _ _ _ _ _ (pe_op op_add pe_int (pe_op op_mod (pe_op op_fdiv (pe_op op_mod (pe_op op_mul (pv 0) pe_int) pe_int) pe_int) (pv 6))) (@pa_cons _ _ _ _ _ (pv 6) pa_nil rfl) rfl)) rfl (by first | exact .inl rfl | exact .inr rfl))
      (pss_consE (ps_if (pt_cmpR op_eq (pe_op op_mod (pe_op op_fdiv (pv 0) pe_int) pe_int) pe_int (nomark _)) (@pss_one _ _ _ (@ps_set _ _ 7 _ _ _ _ sc_law_deed.nd rfl (by first | exact Or.inl rfl | exact Or.inr rfl) (pe_dget2 (hu_of hr) (pe_callTy (call_dictP rfl) (by rfl) B.dict boot_dict (@pa_cons _ _ _ _ _ (pv 1) pa_nil rfl)) (pv 4) (pv 7) ⟨rfl, rfl, rfl, rfl⟩) rfl (by first | exact .inl rfl | exact .inr rfl))) pss_nil)
      (@pss_one _ _ _ (@ps_ret _ _ _ _ (@pe_tup _ _ _ _ _ (@pa_cons _ _ _ _ _ (pv 3) (@pa_cons _ _ _ _ _ (pv 4) (@pa_cons _ _ _ _ _ (pv 5) (@pa_cons _ _ _ _ _ (pv 7) (@pa_cons _ _ _ _ _ (pe_op op_add pe_int (pe_op op_mod (pe_op op_fdiv (pv 0) pe_int) pe_int)) pa_nil rfl) rfl) rfl) rfl) rfl))))))))))), ?_⟩
    refine ⟨_, rfl, _, _, rfl, rfl, ⟨by decide, by decide, by decide⟩, _, _, rfl, rfl, (by show (0 : Int) < _; decide), ?_⟩
    have e30 : (10 : Int) ^ (30 : Int).toNat = 1000000000000000000000000000000 := by decide
    rw [e30]
    obtain ⟨x, hx⟩ : ∃ x, c % 1000000000000000000000000000000 = x := ⟨_, rfl⟩
    dsimp only
    rw [hx]
    refine ⟨_, rfl, _, _, rfl, rfl, .inr ⟨by decide, by decide⟩, _, _, rfl, rfl, (by show (0 : Int) < _; decide), _, _, rfl, rfl, ⟨by decide, by decide⟩, _, _, rfl, rfl, (by show (0 : Int) < _; decide), ?_⟩
    obtain ⟨g, hg, eg⟩ := pick (ss := ss) (i := x * 1812433253 % 2147483629 / 1013 % 8) (Int.emod_nonneg _ (by decide)) (by have := Int.emod_lt_of_pos (x * 1812433253 % 2147483629 / 1013) (show (0 : Int) < 8 by decide); omega)
    obtain ⟨k, hk, ek⟩ := pick (ss := ss) (i := x * 1566083941 % 2147483587 / 1019 % 8) (Int.emod_nonneg _ (by decide)) (by have := Int.emod_lt_of_pos (x * 1566083941 % 2147483587 / 1019) (show (0 : Int) < 8 by decide); omega)
    refine ⟨_, rfl, _, rfl, _, _, rfl, rfl, .inr ⟨by decide, by decide⟩, _, _, rfl, rfl, (by show (0 : Int) < _; decide), _, _, rfl, rfl, ⟨by decide, by decide⟩, _, _, rfl, rfl, (by show (0 : Int) < _; decide), n, _, _, _, rfl, rfl, hN, eg, ?_⟩
    refine ⟨_, rfl, _, rfl, _, _, rfl, rfl, .inr ⟨by decide, by decide⟩, _, _, rfl, rfl, (by show (0 : Int) < _; decide), _, _, rfl, rfl, ⟨by decide, by decide⟩, _, _, rfl, rfl, (by show (0 : Int) < _; decide), n, _, _, _, rfl, rfl, hN, ek, ?_⟩
    refine ⟨_, rfl, _, _, rfl, rfl, .inr ⟨by decide, by decide⟩, _, _, rfl, rfl, (by show (0 : Int) < _; decide), _, _, rfl, rfl, ⟨by decide, by decide⟩, _, _, rfl, rfl, ⟨by decide, by decide, by decide⟩, len_ok rfl, fun l0 hl0 => ?_⟩
    have s0 := Same.upd (o := .lst [V.int 9, V.int 9, V.int 9, V.int 9, V.int 9, V.int 9, V.int 9, V.int (10 ^ (6 : Int).toNat)]) hl0
    obtain ⟨v, hv, v0, v1⟩ : ∃ v : Int, atI [V.int 9, V.int 9, V.int 9, V.int 9, V.int 9, V.int 9, V.int 9, V.int (10 ^ (6 : Int).toNat)] (x % 8) = some (.int v) ∧ 0 < v ∧ v ≤ 1000000 := by
      rcases (show x % 8 = 0 ∨ x % 8 = 1 ∨ x % 8 = 2 ∨ x % 8 = 3 ∨ x % 8 = 4 ∨ x % 8 = 5 ∨ x % 8 = 6 ∨ x % 8 = 7 by omega) with z | z | z | z | z | z | z | z
      all_goals rw [z]
      all_goals first | exact ⟨9, rfl, by decide, by decide⟩ | exact ⟨10 ^ (6 : Int).toNat, rfl, by decide, by decide⟩
    refine ⟨_, rfl, _, _, rfl, rfl, (by show (0 : Int) < _; decide), l0, _, _, _, rfl, rfl, SqL.of upd_same, hv, _, _, rfl, rfl, v0, _, _, rfl, rfl, ?_⟩
    generalize (upd H l0 (.lst [V.int 9, V.int 9, V.int 9, V.int 9, V.int 9, V.int 9, V.int 9, V.int (10 ^ (6 : Int).toNat)])) = H1 at s0 ⊢
    have f0 := Int.emod_nonneg (x * 1597334677 % 2147483579 / 1021) (show v ≠ 0 by omega)
    have f1 := Int.emod_lt_of_pos (x * 1597334677 % 2147483579 / 1021) v0
    obtain ⟨few, hfew⟩ : ∃ few, 1 + x * 1597334677 % 2147483579 / 1021 % v = few := ⟨_, rfl⟩
    dsimp only
    rw [hfew]
    have few0 : 0 < few := by omega
    have t0 := Int.emod_nonneg (x * 1719413229 % 2147483563 / 1031) (show few ≠ 0 by omega)
    have t1 := Int.emod_lt_of_pos (x * 1719413229 % 2147483563 / 1031) few0
    refine ⟨_, rfl, _, _, rfl, rfl, .inr ⟨by decide, by decide⟩, _, _, rfl, rfl, (by show (0 : Int) < _; decide), _, _, rfl, rfl, ⟨by decide, by decide⟩, _, rfl, _, _, rfl, rfl, few0, _, _, rfl, rfl, _, rfl, _, _, rfl, few0, (bd_le (by omega) (by omega)).mono (by decide), fun l1 hl1 => ?_⟩
    obtain ⟨tp, htp⟩ : ∃ tp, 1 + x * 1719413229 % 2147483563 / 1031 % few = tp := ⟨_, rfl⟩
    rw [htp]
    have s1 := Same.upd (o := .tup [.int (frT tp few), .int (frB tp few)]) hl1
    have e1 : (upd H1 l1 (.tup [.int (frT tp few), .int (frB tp few)])) l1 = some (.tup [.int (frT tp few), .int (frB tp few)]) := upd_same
    generalize (upd H1 l1 (.tup [.int (frT tp few), .int (frB tp few)])) = H2 at s1 e1 ⊢
    have s02 := s0.trans s1
    have Bf : Bd 250 few := bd_le (by omega) (by omega)
    have Bt : Bd 250 tp := bd_le (by omega) (by omega)
    have okf := frOk_fr tp few0
    have fp := frT_pos (t := tp) (b := few) (by omega) few0
    have gd : 0 < frT tp few ∧ FrOk (frT tp few, frB tp few) ∧ Bd 250 (frT tp few) ∧ Bd 250 (frB tp few) := by
      refine ⟨fp, okf, ?_, bd_dvd okf.pos few0 frB_dvd Bf⟩
      have g0 := gcd_posR (t := tp) few0
      have ft := fr_t tp few
      exact Bd.le Bt (by
        have : frT tp few ≤ tp := by
          have := Int.mul_le_mul_of_nonneg_left (show (1 : Int) ≤ (Int.gcd tp few : Int) by omega) (Int.le_of_lt fp)
          omega
        omega)
    refine ⟨fun σ' H' => ∃ (p : Addr) (t b : Int), σ' = [some (.int x), some (.ref ls), some (.ref n), some (.int (x * 1103515245 % 2147483647 / 1009 % 5)), some (.str g), some (.str k), some (.int few), some (.ref p)] ∧ Same H2 H' ∧ SqT K H' p [.int t, .int b] ∧ (0 < t ∧ FrOk (t, b) ∧ Bd 250 t ∧ Bd 250 b), ?_, ?_⟩
    · refine ⟨_, rfl, _, _, rfl, rfl, ⟨by decide, by decide⟩, _, _, rfl, rfl, (by show (0 : Int) < _; decide), rfl, _, rfl, ?_⟩
      refine ite2 (fun h => ?_) (fun h => ⟨l1, _, _, rfl, Same.refl _, SqT.of e1, gd⟩)
      obtain ⟨o1, vs1, kv1, d1, d2, d3, d4⟩ := (hF.tk s02.tk).dictE nd
      refine ⟨_, rfl, ls, o1, vs1, kv1, rfl, d1, d2, d3, fun d hd => ?_⟩
      have hD := d4 d hd
      have s3 := Same.upd (o := .dK (mergeK [] kv1)) hd
      generalize (upd H2 d (.dK (mergeK [] kv1))) = H3 at hD s3 ⊢
      obtain ⟨kvs, hkd, r⟩ := hD
      refine ⟨d, rfl, .inl ⟨_, .inl hkd⟩, _, rfl, _, rfl, _, DGet.k (k := Sum.inr g) hkd, ?_⟩
      rcases shv_val (x := g) r with ⟨h1, h2⟩ | ⟨p', f', h1, h2, h3⟩
      · rw [h1]
        exact ⟨l1, _, _, rfl, s3, s3.tup (SqT.of e1), gd⟩
      · rw [h1]
        have fin := List.mem_of_find?_eq_some h2
        obtain ⟨a1, a2, a3, a4⟩ := hp f' fin
        exact ⟨p', f'.2.1, f'.2.2, rfl, s3, h3, a2, a1, a3, a4⟩
    rintro σ' H' ⟨p, t, b, rfl, s4, hp4, good⟩
    refine ⟨_, rfl, _, rfl, _, rfl, _, rfl, _, rfl, _, _, rfl, rfl, ⟨by decide, by decide⟩, _, _, rfl, rfl, (by show (0 : Int) < _; decide), _, _, rfl, rfl, len_ok rfl, fun r hr => ?_⟩
    have s5 := Same.upd (o := .tup [.int (x * 1103515245 % 2147483647 / 1009 % 5), .str g, .str k, .ref p, .int (1 + x / 24 % 64)]) hr
    exact q r (t, b) p _ _ _ t b g k (s02.trans (s4.trans s5)) upd_same (s5.tup hp4) rfl good ⟨Int.emod_nonneg _ (by decide), Int.emod_lt_of_pos _ (by decide)⟩ ⟨by omega, by omega⟩ ⟨hg, hk⟩
noncomputable def sp_sum_of (K : PySem.W.Frag) : Sp := fun vs H Q _ => ∃ (l : Addr) (xs : List V) (fs : List (Int × Int)) (D : Int), vs = [.ref l] ∧ SqL K H l xs ∧ Paired (fun (v : V) (f : Int × Int) => ∃ p, v = .ref p ∧ SqT K H p [.int f.1, .int f.2]) xs fs ∧ (∀ f ∈ fs, SF D 124 f) ∧ (0 < D ∧ Bd 3900 D) ∧ fs.length ≤ 62 ∧ ∀ p H', Same H H' → SqT K H' p [.int (sumF fs).1, .int (sumF fs).2] → Q (.ref p) H'
theorem sc_sum_of : FnScope ["some", "total", "part"] ["some"] (defScope s_sum_of) := ⟨rfl, rfl, rfl, by decide +kernel, rfl, by decide +kernel, by decide +kernel⟩
set_option maxHeartbeats 4000000 in
theorem ok_sum_of (T : Tx K mg "sum_of" s_sum_of ["some"]) (B : Bn mg) (d_plus : Df P w K mg base 3 "plus" ["one", "other"] (sp_plus K)) (u_NONE : ∃ p, mg "NONE" = some (.ref p) ∧ ∀ H, SqT K H p [V.int 0, V.int 1]) : Df P w K mg base 4 "sum_of" ["some"] (sp_sum_of K) := by
  obtain ⟨pu_NONE, gu_NONE, tu_NONE⟩ := u_NONE
  refine T.df sc_sum_of (fun vs H Q E h => ?_) (fun f cdv A outer s H vs Q E hr h => ?_)
  · obtain ⟨l, xs, fs, D, rfl, hl, r, hp, ⟨hD, bD⟩, hz, q⟩ := h
    rfl
  · obtain ⟨l, xs, fs, D, rfl, hl, r, hp, ⟨hD, bD⟩, hz, q⟩ := h
    refine ⟨_, (pss_cons (ps_set (i := 1) sc_sum_of.nd rfl (by first | exact Or.inl rfl | exact Or.inr rfl) (pe_glob (v := .ref pu_NONE) (by rfl) gu_NONE rfl))
      (pss_cons (ps_for PassesOwn.never rfl (pi_list (pv 0)) (pg_name (i := 2) sc_sum_of.nd rfl (by first | exact Or.inl rfl | exact Or.inr rfl)) (pss_one (ps_set (i := 1) sc_sum_of.nd rfl (by first | exact Or.inl rfl | exact Or.inr rfl) (pe_df d_plus hr (pa_cons (pv 1) (pa_cons (pv 2) pa_nil))))))
      (pss_one (ps_ret (pv 1))))), ?_⟩
    have lk : xs.length = fs.length := Paired.length r
    refine ⟨_, rfl, l, rfl, ⟨_, hl⟩, for_list (K := K) (a := l) (xs := xs) (fun i σ H2 => ∃ (p : Addr) (o2 : Option V), σ = [some (.ref l), some (.ref p), o2] ∧ Same H H2 ∧ SqT K H2 p [.int (sumF (fs.take i)).1, .int (sumF (fs.take i)).2]) ⟨pu_NONE, none, rfl, Same.refl _, tu_NONE _⟩ (fun i σ H2 _ ⟨_, _, _, e, _⟩ => e.seq hl) ?_ ?_⟩
    · rintro i y σ H2 hi ⟨p, o2, rfl, s2, hp2⟩
      obtain ⟨f, hf, p3, rfl, h3⟩ := paired_at r hi
      have hil : i < 62 := by
        have := (List.getElem?_eq_some_iff.mp hf).1
        omega
      have sf := sumF_sfk hD (by decide) hp i
      have sb := sf.bdk hD bD (by omega) (by omega)
      have pf := hp f (List.mem_of_getElem? hf)
      have pb := pf.bdk hD bD (by decide) (by decide)
      refine ⟨_, rfl, _, rfl, p, p3, _, _, _, _, rfl, hp2, s2.tup h3, ⟨sf.ok.pos, pf.ok.pos⟩, ⟨sb.1.mono (by decide), sb.2.mono (by decide), pb.1.mono (by decide), pb.2.mono (by decide)⟩, fun l4 H4 s4 hl4 => ?_⟩
      refine ⟨l4, _, rfl, s2.trans s4, ?_⟩
      rw [sumF_take hf]
      exact SqT.of hl4
    · rintro σ H2 ⟨p, o2, rfl, s2, hp2⟩
      rw [lk, List.take_length] at hp2
      exact ⟨_, rfl, q p _ s2 hp2⟩
noncomputable def sp_raise_share (K : PySem.W.Frag) : Sp := fun vs H Q _ => ∃ (d y : Addr) (S : Sh) (x : Str) (t b : Int), vs = [.ref d, .str x, .ref y] ∧ ShD K H d S ∧ S.length ≤ 100 ∧ SqT K H y [.int t, .int b] ∧ (0 < (shAt S x).2 ∧ Bd 4000 (shAt S x).1 ∧ Bd 4000 (shAt S x).2) ∧ (0 < b ∧ Bd 4000 t ∧ Bd 4000 b) ∧ ∀ H', SameX d H H' → ShD K H' d (putS S x (plusF (shAt S x) (t, b))) → Q .non H'
theorem sc_raise_share : FnScope ["held", "name", "part"] ["held", "name", "part"] (defScope s_raise_share) := ⟨rfl, rfl, rfl, by decide +kernel, rfl, by decide +kernel, by decide +kernel⟩
set_option maxHeartbeats 4000000 in
theorem ok_raise_share (T : Tx K mg "raise_share" s_raise_share ["held", "name", "part"]) (B : Bn mg) (d_plus : Df P w K mg base 3 "plus" ["one", "other"] (sp_plus K)) (u_NONE : ∃ p, mg "NONE" = some (.ref p) ∧ ∀ H, SqT K H p [V.int 0, V.int 1]) : Df P w K mg base 4 "raise_share" ["held", "name", "part"] (sp_raise_share K) := by
  obtain ⟨pu_NONE, gu_NONE, tu_NONE⟩ := u_NONE
  refine T.df sc_raise_share (fun vs H Q E h => ?_) (fun f cdv A outer s H vs Q E hr h => ?_)
  · obtain ⟨d, y, S, x, t, b, rfl, hD, hl, hy, ⟨a0, a1, a2⟩, ⟨b0, b1, b2⟩, q⟩ := h
    rfl
  · obtain ⟨d, y, S, x, t, b, rfl, hD, hl, hy, ⟨a0, a1, a2⟩, ⟨b0, b1, b2⟩, q⟩ := h
    have hu := hr.units
    refine ⟨_, (pss_one (ps_dput (hu_of hr) (pv 0) (pv 1) (pe_df d_plus hr (pa_cons (pe_dget2 (hu_of hr) (pv 0) (pv 1) (pe_glob (v := .ref pu_NONE) (by rfl) gu_NONE rfl) ⟨rfl, rfl, rfl, rfl⟩) (pa_cons (pv 2) pa_nil))) rfl)), ?_⟩
    obtain ⟨kvs, hd, r⟩ := hD
    refine ⟨_, rfl, d, rfl, .inl ⟨_, .inl hd⟩, _, rfl, _, DGet.k (k := Sum.inr x) hd, ?_⟩
    have key : ∀ z : V, (∃ p, z = .ref p ∧ SqT K H p [.int (shAt S x).1, .int (shAt S x).2]) → ∃ p, z = .ref p ∧ SqT K H p [.int (shAt S x).1, .int (shAt S x).2] := fun _ h => h
    have fin : ∃ p, (valV kvs (Sum.inr x)).getD (.ref pu_NONE) = .ref p ∧ SqT K H p [.int (shAt S x).1, .int (shAt S x).2] := by
      rcases shv_val (x := x) r with ⟨h1, h2⟩ | ⟨p, f, h1, h2, h3⟩
      · refine ⟨pu_NONE, by rw [h1]; rfl, ?_⟩
        have e : shAt S x = (0, 1) := by unfold shAt; rw [h2]; rfl
        rw [e]
        exact tu_NONE _
      · refine ⟨p, by rw [h1]; rfl, ?_⟩
        have e : shAt S x = f.2 := by unfold shAt; rw [h2]; rfl
        rw [e]
        exact h3
    obtain ⟨p, ep, hp⟩ := fin
    rw [ep]
    refine ⟨_, rfl, p, y, (shAt S x).1, (shAt S x).2, t, b, rfl, hp, hy, ⟨a0, b0⟩, ⟨a1, a2, b1, b2⟩, fun l H1 s1 hl1 => ?_⟩
    have hd1 := s1 _ _ hd
    have lk : kvs.length = S.length := Paired.length r
    refine ⟨_, rfl, _, rfl, d, _, rfl, DPut.k (k := Sum.inr x) hd1 (small1000 (by omega)), ?_⟩
    refine q _ (s1.x.trans SameX.upd) ⟨_, upd_same, ?_⟩
    exact Paired.imp (fun _ _ => ShV.tk (TK.dK hd1)) (shv_put (SqT.of hl1) (Paired.imp (fun _ _ => ShV.tk s1.tk) r))
noncomputable def sp_lower_share (K : PySem.W.Frag) : Sp := fun vs H Q _ => ∃ (d y : Addr) (S : Sh) (x : Str) (t b : Int), vs = [.ref d, .str x, .ref y] ∧ ShD K H d S ∧ S.length ≤ 100 ∧ SqT K H y [.int t, .int b] ∧ (0 < (shAt S x).2 ∧ Bd 4000 (shAt S x).1 ∧ Bd 4000 (shAt S x).2) ∧ (0 < b ∧ Bd 4000 t ∧ Bd 4000 b) ∧ ∀ H', SameX d H H' → ShD K H' d (putS S x (minusF (shAt S x) (t, b))) → Q .non H'
theorem sc_lower_share : FnScope ["held", "name", "part"] ["held", "name", "part"] (defScope s_lower_share) := ⟨rfl, rfl, rfl, by decide +kernel, rfl, by decide +kernel, by decide +kernel⟩
set_option maxHeartbeats 4000000 in
theorem ok_lower_share (T : Tx K mg "lower_share" s_lower_share ["held", "name", "part"]) (B : Bn mg) (d_minus : Df P w K mg base 3 "minus" ["one", "other"] (sp_minus K)) (u_NONE : ∃ p, mg "NONE" = some (.ref p) ∧ ∀ H, SqT K H p [V.int 0, V.int 1]) : Df P w K mg base 4 "lower_share" ["held", "name", "part"] (sp_lower_share K) := by
  obtain ⟨pu_NONE, gu_NONE, tu_NONE⟩ := u_NONE
  refine T.df sc_lower_share (fun vs H Q E h => ?_) (fun f cdv A outer s H vs Q E hr h => ?_)
  · obtain ⟨d, y, S, x, t, b, rfl, hD, hl, hy, ⟨a0, a1, a2⟩, ⟨b0, b1, b2⟩, q⟩ := h
    rfl
  · obtain ⟨d, y, S, x, t, b, rfl, hD, hl, hy, ⟨a0, a1, a2⟩, ⟨b0, b1, b2⟩, q⟩ := h
    have hu := hr.units
    refine ⟨_, (pss_one (ps_dput (hu_of hr) (pv 0) (pv 1) (pe_df d_minus hr (pa_cons (pe_dget2 (hu_of hr) (pv 0) (pv 1) (pe_glob (v := .ref pu_NONE) (by rfl) gu_NONE rfl) ⟨rfl, rfl, rfl, rfl⟩) (pa_cons (pv 2) pa_nil))) rfl)), ?_⟩
    obtain ⟨kvs, hd, r⟩ := hD
    refine ⟨_, rfl, d, rfl, .inl ⟨_, .inl hd⟩, _, rfl, _, DGet.k (k := Sum.inr x) hd, ?_⟩
    have key : ∀ z : V, (∃ p, z = .ref p ∧ SqT K H p [.int (shAt S x).1, .int (shAt S x).2]) → ∃ p, z = .ref p ∧ SqT K H p [.int (shAt S x).1, .int (shAt S x).2] := fun _ h => h
    have fin : ∃ p, (valV kvs (Sum.inr x)).getD (.ref pu_NONE) = .ref p ∧ SqT K H p [.int (shAt S x).1, .int (shAt S x).2] := by
      rcases shv_val (x := x) r with ⟨h1, h2⟩ | ⟨p, f, h1, h2, h3⟩
      · refine ⟨pu_NONE, by rw [h1]; rfl, ?_⟩
        have e : shAt S x = (0, 1) := by unfold shAt; rw [h2]; rfl
        rw [e]
        exact tu_NONE _
      · refine ⟨p, by rw [h1]; rfl, ?_⟩
        have e : shAt S x = f.2 := by unfold shAt; rw [h2]; rfl
        rw [e]
        exact h3
    obtain ⟨p, ep, hp⟩ := fin
    rw [ep]
    refine ⟨_, rfl, p, y, (shAt S x).1, (shAt S x).2, t, b, rfl, hp, hy, ⟨a0, b0⟩, ⟨a1, a2, b1, b2⟩, fun l H1 s1 hl1 => ?_⟩
    have hd1 := s1 _ _ hd
    have lk : kvs.length = S.length := Paired.length r
    refine ⟨_, rfl, _, rfl, d, _, rfl, DPut.k (k := Sum.inr x) hd1 (small1000 (by omega)), ?_⟩
    refine q _ (s1.x.trans SameX.upd) ⟨_, upd_same, ?_⟩
    exact Paired.imp (fun _ _ => ShV.tk (TK.dK hd1)) (shv_put (SqT.of hl1) (Paired.imp (fun _ _ => ShV.tk s1.tk) r))
noncomputable def sp_shares_of (K : PySem.W.Frag) (mg : Str → Option Value) : Sp := fun vs H Q E => ∃ (l : Addr) (xs : List V) (ps : Prs) (D : Int), vs = [.ref l] ∧ SqL K H l xs ∧ Paired (PrT K H) xs ps ∧ (∀ p ∈ ps, PP D p.2) ∧ (0 < D ∧ Bd 300 D) ∧ ps.length ≤ 62 ∧ (((∃ p ∈ ps, ¬ okP p) ∨ sumF (ps.map (·.2)) ≠ (1, 1)) → ∀ H', Same H H' → E (clsV mg "BadShares") none H') ∧ ((∀ p ∈ ps, okP p) → sumF (ps.map (·.2)) = (1, 1) → AInv D ps.length (accS ps) ps → ∀ ss, ss.Perm ((accS ps).map (·.1)) → sortedS ss = true → ((¬ ∃ p ∈ toldS (accS ps) ss, FIN < p.2.2) → ∀ l H', Same H H' → ShF K H' l (toldS (accS ps) ss) → Q (.ref l) H') ∧ ((∃ p ∈ toldS (accS ps) ss, FIN < p.2.2) → ∀ H', Same H H' → E (clsV mg "TooFine") none H'))
theorem sc_shares_of : FnScope ["pairs", "held", "pair"] ["pairs"] (defScope s_shares_of) := ⟨rfl, rfl, rfl, by decide +kernel, rfl, by decide +kernel, by decide +kernel⟩
set_option maxHeartbeats 4000000 in
theorem ok_shares_of {C_BadShares : Addr} (T : Tx K mg "shares_of" s_shares_of ["pairs"]) (B : Bn mg) (e_told_of : DfE P w K mg base 1 "told_of" ["held"] (sp_told_of K mg)) (d_raise_share : Df P w K mg base 4 "raise_share" ["held", "name", "part"] (sp_raise_share K)) (d_sum_of : Df P w K mg base 4 "sum_of" ["some"] (sp_sum_of K)) (d_is_name : Df P w K mg base 1 "is_name" ["thing"] (sp_is_name K)) (d_under : Df P w K mg base 1 "under" ["one", "other"] (sp_under K)) (z_BadShares : ExcCl K mg "BadShares" C_BadShares) (u_NONE : ∃ p, mg "NONE" = some (.ref p) ∧ ∀ H, SqT K H p [V.int 0, V.int 1]) (u_ALL : ∃ p, mg "ALL" = some (.ref p) ∧ ∀ H, SqT K H p [V.int 1, V.int 1]) : DfE P w K mg base 5 "shares_of" ["pairs"] (sp_shares_of K mg) := by
  obtain ⟨pu_NONE, gu_NONE, tu_NONE⟩ := u_NONE
  obtain ⟨pu_ALL, gu_ALL, tu_ALL⟩ := u_ALL
  have d_told_of := e_told_of.df
  refine T.dfE sc_shares_of (fun vs H Q E h => ?_) (fun f cdv A outer s H vs Q E hr h => ?_)
  · obtain ⟨l, xs, ps, D, rfl, hl, pr, hp, ⟨hD, bD⟩, hz, qB, q⟩ := h
    rfl
  · obtain ⟨l, xs, ps, D, rfl, hl, pr, hp, ⟨hD, bD⟩, hz, qB, q⟩ := h
    have hu := hr.units
    refine ⟨_, (pss_cons (ps_set (i := 1) sc_shares_of.nd rfl (by first | exact Or.inl rfl | exact Or.inr rfl) pe_dnewK)
      (pss_cons (ps_for PassesOwn.leaving rfl (pi_list (pv 0)) (pg_name (i := 2) sc_shares_of.nd rfl (by first | exact Or.inl rfl | exact Or.inr rfl)) (pss_cons (ps_if (pt_not (pt_val (pe_df d_is_name hr (pa_cons (pe_ix ix_tup (pv 2) pe_int (fun _ _ => rfl)) pa_nil)))) (pss_one (ps_raise (W := fun H1 => E (.ref C_BadShares) none H1) z_BadShares rfl (pa_cons pe_str pa_nil) (fun _ _ _ _ _ _ _ I hx ee => xe_made I hx ee))) pss_nil)
      (pss_cons (ps_if (pt_not (pt_val (pe_df d_under hr (pa_cons (pe_glob (v := .ref pu_NONE) (by rfl) gu_NONE rfl) (pa_cons (pe_ix ix_tup (pv 2) pe_int (fun _ _ => rfl)) pa_nil))))) (pss_one (ps_raise (W := fun H1 => E (.ref C_BadShares) none H1) z_BadShares rfl (pa_cons pe_str pa_nil) (fun _ _ _ _ _ _ _ I hx ee => xe_made I hx ee))) pss_nil)
      (pss_one (ps_expr (pe_df d_raise_share hr (pa_cons (pv 1) (pa_cons (pe_ix ix_tup (pv 2) pe_int (fun _ _ => rfl)) (pa_cons (pe_ix ix_tup (pv 2) pe_int (fun _ _ => rfl)) pa_nil)))))))))
      (pss_cons (ps_if (pt_cmpR (op_neD hu) (pe_df d_sum_of hr (pa_cons (pe_callTy (call_listV rfl) (by rfl) B.list boot_list (pa_cons (pe_bm0 PySem.F.plainAttrs_dict PySem.F.slot_dict_values PySem.F.type_dict_values mt_values (pv 1)) pa_nil)) pa_nil)) (pe_glob (v := .ref pu_ALL) (by rfl) gu_ALL rfl) (nomark _)) (pss_one (ps_raise (W := fun H1 => E (.ref C_BadShares) none H1) z_BadShares rfl (pa_cons pe_str pa_nil) (fun _ _ _ _ _ _ _ I hx ee => xe_made I hx ee))) pss_nil)
      (pss_one (ps_ret (pe_dfE e_told_of hr (pass_on fun _ _ _ h => h) (pa_cons (pv 1) pa_nil))))))), ?_⟩
    rw [clsV_eq z_BadShares] at qB
    have lx : xs.length = ps.length := Paired.length pr
    have z0 : Bd 4000 (0 : Int) := Bd.mono (m := 250) (bd_le (by decide) (by decide)) (by decide)
    have z1 : Bd 4000 (1 : Int) := Bd.mono (m := 250) (bd_le (by decide) (by decide)) (by decide)
    intro d hd
    have sd := Same.upd (o := .dK []) hd
    have hD0 : ShD K (upd H d (.dK [])) d [] := ⟨[], upd_same, .nil⟩
    generalize (upd H d (.dK [])) = H1 at sd hD0 ⊢
    refine ⟨_, rfl, l, rfl, ⟨_, sd.seq hl⟩, for_list (K := K) (a := l) (xs := xs) (fun i σ H2 => ∃ o2 : Option V, σ = [some (.ref l), some (.ref d), o2] ∧ Same H H2 ∧ ShD K H2 d (accS (ps.take i)) ∧ AInv D i (accS (ps.take i)) (ps.take i) ∧ ∀ p ∈ ps.take i, okP p) ⟨none, rfl, sd, hD0, AInv.nil, fun _ z => (nomatch z)⟩ (fun i σ H2 _ ⟨_, _, e, _⟩ => e.seq hl) ?_ ?_⟩
    · rintro i y σ H2 hi ⟨o2, rfl, s2, hD2, ai, okb⟩
      obtain ⟨p, hpi, r, nv, yy, rfl, h1, th, h2⟩ := paired_at pr hi
      have il : i < ps.length := (List.getElem?_eq_some_iff.mp hpi).1
      have pin := List.mem_of_getElem? hpi
      have pp := hp p pin
      have tk : ps.take (i + 1) = ps.take i ++ [p] := by rw [List.take_add_one, hpi]; rfl
      have h1' := s2.tup h1
      refine ⟨_, rfl, r, _, _, _, rfl, rfl, h1', (atI_nat (j := 0) rfl), nv, p.1, rfl, th.same s2, fun H3 s3 => ⟨_, rfl, ?_⟩⟩
      have s23 := s2.trans s3
      cases en : nmD p.1 with
      | false => exact ⟨len_ok rfl, qB (.inl ⟨p, pin, fun z => by rw [z.1] at en; cases en⟩) H3 s23⟩
      | true =>
        refine iteF ?_
        refine ⟨_, rfl, r, _, _, _, rfl, rfl, s23.tup h1, (atI_nat (j := 1) rfl), pu_NONE, yy, 0, 1, _, _, rfl, tu_NONE _, s23.tup h2, ⟨by decide, pp.pos⟩, ⟨z0, z1, pp.b1.mono (by decide), pp.b2.mono (by decide)⟩, _, rfl, ?_⟩
        refine ite2 (fun h3 => ?_) (fun h3 => ?_)
        · refine ⟨len_ok rfl, qB (.inl ⟨p, pin, fun z => ?_⟩) H3 s23⟩
          have z2 := z.2
          rw [decide_eq_true (show 0 * p.2.2 < p.2.1 * 1 by omega)] at h3
          exact absurd h3 (by decide)
        have t0 : 0 < p.2.1 := Decidable.byContradiction fun z => h3 (by rw [decide_eq_false (show ¬ 0 * p.2.2 < p.2.1 * 1 by omega)]; rfl)
        obtain ⟨x, ex, rfl⟩ : ∃ x, p.1 = .str x ∧ nv = .str x := by
          have hd0 := th.1
          generalize p.1 = dd at hd0 en
          cases hd0 <;> first | exact ⟨_, rfl, rfl⟩ | cases en
        have sf := ai.at x
        have f := pp.sf t0
        have sb := sf.bdk hD bD (by omega) (by omega)
        have len := ai.len
        refine ⟨_, rfl, _, rfl, r, _, _, _, rfl, rfl, s23.tup h1, (atI_nat (j := 0) rfl), _, rfl, r, _, _, _, rfl, rfl, s23.tup h1, (atI_nat (j := 1) rfl), d, yy, _, x, _, _, rfl, hD2.same s3, by omega, s23.tup h2, ⟨sf.ok.pos, sb.1.mono (by decide), sb.2.mono (by decide)⟩, ⟨pp.pos, pp.b1.mono (by decide), pp.b2.mono (by decide)⟩, fun H4 s4 hD4 => ?_⟩
        have ea : accS (ps.take (i + 1)) = putS (accS (ps.take i)) x (plusF (shAt (accS (ps.take i)) x) p.2) := by
          rw [tk, accS_snoc]
          unfold stepS
          rw [ex]
          rfl
        refine ⟨_, rfl, fun c o e => s4 c o (fun z => by rw [z, hd] at e; cases e) (s23 c o e), by rw [ea]; exact hD4, ?_, fun p' hp' => ?_⟩
        · have st := ai.step hD t0 pp
          rw [← accS_snoc, ← tk] at st
          exact st
        · rw [tk] at hp'
          rcases List.mem_append.mp hp' with z | z
          · exact okb p' z
          · rw [List.mem_singleton.mp z]
            exact ⟨en, t0⟩
    · rintro σ H2 ⟨o2, rfl, s2, hD2, ai, okb⟩
      rw [lx, List.take_length] at hD2 ai okb
      obtain ⟨kvs, hd2, rv⟩ := id hD2
      have len := ai.len
      refine ⟨_, rfl, .inr (.inr (.inl ⟨rfl, .inl ⟨_, hd2⟩⟩)), d, _, rfl, rfl, hd2, fun w hw => ?_⟩
      have sw := Same.upd (o := ValO w d) hw
      refine ⟨w, d, _, rfl, upd_same, .inl (sw _ _ hd2), fun l1 hl1 => ?_⟩
      have sl1 := Same.upd (o := .lst (kvs.map (·.2))) hl1
      have s3 := s2.trans (sw.trans sl1)
      have hD3 := hD2.same (sw.trans sl1)
      have k1 : (upd (upd H2 w (ValO w d)) l1 (.lst (kvs.map (·.2)))) l1 = some (.lst (kvs.map (·.2))) := upd_same
      have vals : Paired (fun (v : V) (f : Int × Int) => ∃ p, v = .ref p ∧ SqT K (upd (upd H2 w (ValO w d)) l1 (.lst (kvs.map (·.2)))) p [.int f.1, .int f.2]) (kvs.map (·.2)) ((accS ps).map (·.2)) := by
        have rv' := Paired.imp (fun _ _ => ShV.tk (sw.trans sl1).tk) rv
        clear rv
        revert rv'
        generalize accS ps = SS
        intro rv'
        generalize (upd (upd H2 w (ValO w d)) l1 (.lst (kvs.map (·.2)))) = HH at rv' ⊢
        clear k1 hD3 s3 sl1 hd2 sw hw hl1
        induction rv' with
        | nil => exact .nil
        | cons a _ ih => exact .cons a.2 ih
      generalize (upd (upd H2 w (ValO w d)) l1 (.lst (kvs.map (·.2)))) = H3 at s3 hD3 k1 vals ⊢
      refine ⟨l1, _, (accS ps).map (·.2), D, rfl, SqL.of k1, vals, fun f hf => ?_, ⟨hD, bD.mono (by decide)⟩, by rw [List.length_map]; omega, fun p4 H4 s4 h4 => ?_⟩
      · obtain ⟨q', hq', rfl⟩ := List.mem_map.mp hf
        exact (ai.sf q' hq').1.mono (by omega)
      rw [ai.sum] at h4
      refine ⟨_, _, IsD.tup h4 (isDs2 _ _), IsD.tup (tu_ALL _) (isDs2 _ _), rfl, rfl, by show 1 ≤ 50; decide, _, rfl, ?_⟩
      rw [eqv_fr]
      have s34 := s3.trans s4
      refine ite2 (fun h5 => ?_) (fun h5 => ?_)
      · refine ⟨len_ok rfl, qB (.inr fun z => ?_) H4 s34⟩
        rw [decide_eq_true (show ((sumF (ps.map (·.2))).1, (sumF (ps.map (·.2))).2) = ((1 : Int), (1 : Int)) from z)] at h5
        exact absurd h5 (by decide)
      · have e1 : sumF (ps.map (·.2)) = (1, 1) := Decidable.byContradiction fun z => h5 (by rw [decide_eq_false (show ¬ ((sumF (ps.map (·.2))).1, (sumF (ps.map (·.2))).2) = ((1 : Int), (1 : Int)) from z)]; rfl)
        refine ⟨_, rfl, d, accS ps, rfl, hD3.same s4, by omega, fun ss pm so nf l' H' s' hF' => ?_, fun ss pm so fi H' s' => ?_⟩
        · exact (q okb e1 ai ss pm so).1 nf l' H' (s34.trans s') hF'
        · exact (q okb e1 ai ss pm so).2 fi H' (s34.trans s')
noncomputable def sp_hand_on (K : PySem.W.Frag) (mg : Str → Option Value) : Sp := fun vs H Q E => ∃ (a y : Addr) (S : Sh) (g k : Str) (t b : Int), vs = [.ref a, .str g, .str k, .ref y] ∧ ShF K H a S ∧ ShOk S ∧ S.length ≤ 50 ∧ ShB 900 S ∧ SqT K H y [.int t, .int b] ∧ (0 < b ∧ Bd 900 t ∧ Bd 900 b) ∧ ((shAt S g).1 * b < t * (shAt S g).2 → E (clsV mg "TooLittle") none H) ∧ (¬ (shAt S g).1 * b < t * (shAt S g).2 → ∀ ss, ss.Perm ((handS S g k (t, b)).map (·.1)) → sortedS ss = true → ((¬ ∃ p ∈ toldS (handS S g k (t, b)) ss, FIN < p.2.2) → ∀ l H', Same H H' → ShF K H' l (toldS (handS S g k (t, b)) ss) → Q (.ref l) H') ∧ ((∃ p ∈ toldS (handS S g k (t, b)) ss, FIN < p.2.2) → ∀ H', Same H H' → E (clsV mg "TooFine") none H'))
theorem sc_hand_on : FnScope ["shares", "giver", "taker", "part", "held"] ["shares", "giver", "taker", "part"] (defScope s_hand_on) := ⟨rfl, rfl, rfl, by decide +kernel, rfl, by decide +kernel, by decide +kernel⟩
set_option maxHeartbeats 4000000 in
theorem ok_hand_on {C_TooLittle : Addr} (T : Tx K mg "hand_on" s_hand_on ["shares", "giver", "taker", "part"]) (B : Bn mg) (d_under : Df P w K mg base 1 "under" ["one", "other"] (sp_under K)) (d_lower_share : Df P w K mg base 4 "lower_share" ["held", "name", "part"] (sp_lower_share K)) (d_raise_share : Df P w K mg base 4 "raise_share" ["held", "name", "part"] (sp_raise_share K)) (e_told_of : DfE P w K mg base 1 "told_of" ["held"] (sp_told_of K mg)) (d_share_of : Df P w K mg base 1 "share_of" ["shares", "name"] (sp_share_of K)) (z_TooLittle : ExcCl K mg "TooLittle" C_TooLittle) : DfE P w K mg base 5 "hand_on" ["shares", "giver", "taker", "part"] (sp_hand_on K mg) := by
  have d_told_of := e_told_of.df
  refine T.dfE sc_hand_on (fun vs H Q E h => ?_) (fun f cdv A outer s H vs Q E hr h => ?_)
  · obtain ⟨a, y, S, g, k, t, b, rfl, hF, hok, hz, hB, hy, ⟨b0, b1, b2⟩, qL, q⟩ := h
    rfl
  · obtain ⟨a, y, S, g, k, t, b, rfl, hF, hok, hz, hB, hy, ⟨b0, b1, b2⟩, qL, q⟩ := h
    refine ⟨_, (pss_cons (ps_if (pt_val (pe_df d_under hr (pa_cons (pe_df d_share_of hr (pa_cons (pv 0) (pa_cons (pv 1) pa_nil))) (pa_cons (pv 3) pa_nil)))) (pss_one (ps_raise (W := fun H1 => E (.ref C_TooLittle) none H1) z_TooLittle rfl (pa_cons pe_str pa_nil) (fun _ _ _ _ _ _ _ I hx ee => xe_made I hx ee))) pss_nil)
      (pss_cons (ps_set (i := 4) sc_hand_on.nd rfl (by first | exact Or.inl rfl | exact Or.inr rfl) (pe_callTy (call_dictP rfl) (by rfl) B.dict boot_dict (pa_cons (pv 0) pa_nil)))
      (pss_cons (ps_expr (pe_df d_lower_share hr (pa_cons (pv 4) (pa_cons (pv 1) (pa_cons (pv 3) pa_nil)))))
      (pss_cons (ps_expr (pe_df d_raise_share hr (pa_cons (pv 4) (pa_cons (pv 2) (pa_cons (pv 3) pa_nil)))))
      (pss_one (ps_ret (pe_dfE e_told_of hr (pass_on fun _ _ _ h => h) (pa_cons (pv 4) pa_nil)))))))), ?_⟩
    rw [clsV_eq z_TooLittle] at qL
    have ag := hok.at g
    have bg := hB.at (by decide) g
    have B2 : ∀ {z : Int}, Bd 900 z → Bd 4000 z := fun h => h.mono (by decide)
    refine ⟨_, rfl, _, rfl, a, S, g, rfl, hF.t, fun p hp => ?_⟩
    refine ⟨_, rfl, p, y, _, _, t, b, rfl, hp, hy, ⟨ag.1.pos, b0⟩, ⟨B2 bg.1, B2 bg.2, B2 b1, B2 b2⟩, _, rfl, ?_⟩
    refine ite2 (fun h1 => ?_) (fun h1 => ?_)
    · exact ⟨len_ok rfl, qL (of_decide_eq_true h1)⟩
    · have h1' : ¬ (shAt S g).1 * b < t * (shAt S g).2 := fun z => h1 (decide_eq_true z)
      obtain ⟨o1, vs1, kv1, d1, d2, d3, d4⟩ := hF.dictE hok.nd
      refine ⟨_, rfl, a, o1, vs1, kv1, rfl, d1, d2, d3, fun d hd => ?_⟩
      have hD := d4 d hd
      have s1 := Same.upd (o := .dK (mergeK [] kv1)) hd
      generalize (upd H d (.dK (mergeK [] kv1))) = H1 at hD s1 ⊢
      have bm := bd_minus (f := shAt S g) (g := (t, b)) bg.1 bg.2 b1 b2
      have hB1 : ShB 1801 (putS S g (minusF (shAt S g) (t, b))) := (hB.mono (by decide)).put g bm.1 (bm.2.mono (by decide))
      refine ⟨_, rfl, _, rfl, _, rfl, d, y, S, g, t, b, rfl, hD, by omega, s1.tup hy, ⟨ag.1.pos, B2 bg.1, B2 bg.2⟩, ⟨b0, B2 b1, B2 b2⟩, fun H2 s2 hD2 => ?_⟩
      have S1 : Same H H2 := fun c o e => s2 c o (fun z => by rw [z, hd] at e; cases e) (s1 c o e)
      have hok1 := hok.put g (minusF_ok ag.1.pos b0) (minus_nn (f := shAt S g) (g := (t, b)) ag.1.pos b0 h1')
      have ak := hok1.at k
      have bk := hB1.at (by decide) k
      have hl1 := putS_len S g (minusF (shAt S g) (t, b))
      refine ⟨_, rfl, _, rfl, _, rfl, d, y, _, k, t, b, rfl, hD2, by omega, S1.tup hy, ⟨ak.1.pos, bk.1.mono (by decide), bk.2.mono (by decide)⟩, ⟨b0, B2 b1, B2 b2⟩, fun H3 s3 hD3 => ?_⟩
      have S2 : Same H H3 := fun c o e => s3 c o (fun z => by rw [z, hd] at e; cases e) (S1 c o e)
      have hl2 := handS_len S g k (t, b)
      refine ⟨_, rfl, d, handS S g k (t, b), rfl, hD3, by omega, fun ss pm so nf l H' s' hF' => ?_, fun ss pm so fi H' s' => ?_⟩
      · exact (q h1' ss pm so).1 nf l H' (S2.trans s') hF'
      · exact (q h1' ss pm so).2 fi H' (S2.trans s')
noncomputable def sp_mixed (K : PySem.W.Frag) (mg : Str → Option Value) : Sp := fun vs H Q E => ∃ (a1 a2 : Addr) (A B : Sh) (m n : Int), vs = [.ref a1, .int m, .ref a2, .int n] ∧ ShF K H a1 A ∧ ShF K H a2 B ∧ (ShOk A ∧ ShOk B) ∧ (A.length ≤ 20 ∧ B.length ≤ 20) ∧ (ShB 250 A ∧ ShB 250 B) ∧ (0 < m ∧ 0 < n) ∧ (Bd 70 m ∧ Bd 70 n) ∧ (∀ ss, ss.Perm ((mixS A m n B).map (·.1)) → sortedS ss = true → (¬ ∃ p ∈ toldS (mixS A m n B) ss, FIN < p.2.2) → ∀ l H', Same H H' → ShF K H' l (toldS (mixS A m n B) ss) → Q (.ref l) H') ∧ (∀ ss, ss.Perm ((mixS A m n B).map (·.1)) → sortedS ss = true → (∃ p ∈ toldS (mixS A m n B) ss, FIN < p.2.2) → ∀ H', Same H H' → E (clsV mg "TooFine") none H')
theorem sc_mixed : FnScope ["one", "many", "other", "more", "held", "pair"] ["one", "many", "other", "more"] (defScope s_mixed) := ⟨rfl, rfl, rfl, by decide +kernel, rfl, by decide +kernel, by decide +kernel⟩
set_option maxHeartbeats 4000000 in
theorem ok_mixed (T : Tx K mg "mixed" s_mixed ["one", "many", "other", "more"]) (B : Bn mg) (e_told_of : DfE P w K mg base 1 "told_of" ["held"] (sp_told_of K mg)) (d_raise_share : Df P w K mg base 4 "raise_share" ["held", "name", "part"] (sp_raise_share K)) (d_product : Df P w K mg base 3 "product" ["one", "other"] (sp_product K)) (e_fraction : DfE P w K mg base 3 "fraction" ["top", "bottom"] (sp_fraction K mg)) : DfE P w K mg base 5 "mixed" ["one", "many", "other", "more"] (sp_mixed K mg) := by
  have d_told_of := e_told_of.df
  have d_fraction := e_fraction.df
  refine T.dfE sc_mixed (fun vs H Q E h => ?_) (fun f cdv A outer s H vs Q E hr h => ?_)
  · obtain ⟨a1, a2, A, B, m, n, rfl, hFA, hFB, ⟨okA, okB⟩, ⟨zA, zB⟩, ⟨bA, bB⟩, ⟨hm, hn⟩, ⟨bm, bn⟩, q, qE⟩ := h
    rfl
  · obtain ⟨a1, a2, A, B, m, n, rfl, hFA, hFB, ⟨okA, okB⟩, ⟨zA, zB⟩, ⟨bA, bB⟩, ⟨hm, hn⟩, ⟨bm, bn⟩, q, qE⟩ := h
    refine ⟨_, (pss_cons (ps_set (i := 4) sc_mixed.nd rfl (by first | exact Or.inl rfl | exact Or.inr rfl) pe_dnewK)
      (pss_cons (ps_for PassesOwn.leaving rfl (pi_tup (pv 0)) (pg_name (i := 5) sc_mixed.nd rfl (by first | exact Or.inl rfl | exact Or.inr rfl)) (pss_one (ps_expr (pe_df d_raise_share hr (pa_cons (pv 4) (pa_cons (pe_ix ix_tup (pv 5) pe_int (fun _ _ => rfl)) (pa_cons (pe_df d_product hr (pa_cons (pe_dfE e_fraction hr (pass_on fun _ _ _ h => h) (pa_cons (pv 1) (pa_cons (pe_op op_add (pv 1) (pv 3)) pa_nil))) (pa_cons (pe_ix ix_tup (pv 5) pe_int (fun _ _ => rfl)) pa_nil))) pa_nil)))))))
      (pss_cons (ps_for PassesOwn.leaving rfl (pi_tup (pv 2)) (pg_name (i := 5) sc_mixed.nd rfl (by first | exact Or.inl rfl | exact Or.inr rfl)) (pss_one (ps_expr (pe_df d_raise_share hr (pa_cons (pv 4) (pa_cons (pe_ix ix_tup (pv 5) pe_int (fun _ _ => rfl)) (pa_cons (pe_df d_product hr (pa_cons (pe_dfE e_fraction hr (pass_on fun _ _ _ h => h) (pa_cons (pv 3) (pa_cons (pe_op op_add (pv 1) (pv 3)) pa_nil))) (pa_cons (pe_ix ix_tup (pv 5) pe_int (fun _ _ => rfl)) pa_nil))) pa_nil)))))))
      (pss_one (ps_ret (pe_dfE e_told_of hr (pass_on fun _ _ _ h => h) (pa_cons (pv 4) pa_nil))))))), ?_⟩
    have hmn : 0 < m + n := by omega
    have bmn : Bd 71 (m + n) := (bm.add bn).mono (by decide)
    have w1 := frOf_ok m hmn
    have w2 := frOf_ok n hmn
    have bw1 : Bd 71 (frOf m (m + n)).1 ∧ Bd 71 (frOf m (m + n)).2 := ⟨Bd.frT (bm.mono (by decide)), Bd.frB bmn⟩
    have bw2 : Bd 71 (frOf n (m + n)).1 ∧ Bd 71 (frOf n (m + n)).2 := ⟨Bd.frT (bn.mono (by decide)), Bd.frB bmn⟩
    have at1 : ∀ (S : Sh) (x : Str), (S.map (·.1)).Nodup → ShB 250 S → (∀ y, FrOk (shAt S y)) → FrOk (shAt (mixOne (frOf m (m + n)) [] S) x) ∧ Bd 330 (shAt (mixOne (frOf m (m + n)) [] S) x).1 ∧ Bd 330 (shAt (mixOne (frOf m (m + n)) [] S) x).2 := by
      intro S x nd bS okS
      have e := mixOne_at w1.pos S [] x nd nought_ok
      rw [shAt_nil, nought_plus (prodF_ok w1.pos (okS x).pos)] at e
      have bs := bS.at (by decide) x
      have bp := bd_prod bw1.1 bw1.2 bs.1 bs.2
      rw [e]
      exact ⟨prodF_ok w1.pos (okS x).pos, bp.1.mono (by decide), bp.2.mono (by decide)⟩
    intro d hd
    have sd := Same.upd (o := .dK []) hd
    have hD0 : ShD K (upd H d (.dK [])) d [] := ⟨[], upd_same, .nil⟩
    generalize (upd H d (.dK [])) = H1 at sd hD0 ⊢
    obtain ⟨vA, hvA, rA⟩ := hFA.t
    obtain ⟨vB, hvB, rB⟩ := hFB.t
    have lA : vA.length = A.length := Paired.length rA
    have lB : vB.length = B.length := Paired.length rB
    refine ⟨_, rfl, a1, rfl, ⟨_, sd.tup hvA⟩, for_tup (K := K) (a := a1) (xs := vA) (fun i σ H2 => ∃ o5 : Option V, σ = [some (.ref a1), some (.int m), some (.ref a2), some (.int n), some (.ref d), o5] ∧ Same H H2 ∧ ShD K H2 d (mixOne (frOf m (m + n)) [] (A.take i))) ⟨none, rfl, sd, hD0⟩ (fun i σ H2 _ ⟨_, _, e, _⟩ => e.tup hvA) ?_ ?_⟩
    · rintro i y σ H2 hi ⟨o5, rfl, s2, hD2⟩
      obtain ⟨p, hp, r1, q1, rfl, h1, h2⟩ := paired_at rA hi
      have hmem := List.mem_of_getElem? hp
      have okp := (okA.ok p hmem).1
      have bp := bA p hmem
      refine ⟨_, rfl, _, rfl, r1, _, _, _, rfl, rfl, s2.tup h1, (atI_nat (j := 0) rfl), ?_⟩
      refine ⟨_, rfl, _, rfl, _, rfl, _, _, rfl, rfl, _, _, _, _, rfl, TyOf.int _, TyOf.int _, .inl ⟨m, m + n, rfl, rfl, by omega, bmn.mono (by decide), fun l3 x3 y3 hx3 hl3 => ?_⟩⟩
      obtain ⟨rfl, rfl⟩ := hx3.fr hmn
      have s3 := Same.upd (o := .tup [.int (frT m (m + n)), .int (frB m (m + n))]) hl3
      refine ⟨_, rfl, r1, _, _, _, rfl, rfl, (s2.trans s3).tup h1, (atI_nat (j := 1) rfl), l3, q1, _, _, _, _, rfl, SqT.of upd_same, (s2.trans s3).tup h2, ⟨w1.pos, okp.pos⟩, ⟨bw1.1.mono (by decide), bw1.2.mono (by decide), bp.1.mono (by decide), bp.2.mono (by decide)⟩, fun l4 H4 s4 hl4 => ?_⟩
      have nd' : ((A.take i).map (·.1)).Nodup := by rw [List.map_take]; exact okA.nd.sublist (List.take_sublist ..)
      have ok' : ∀ y, FrOk (shAt (A.take i) y) := fun y => (ShOk.at ⟨nd', fun r hr => okA.ok r (List.mem_of_mem_take hr)⟩ y).1
      have f4 := at1 (A.take i) p.1 nd' (fun r hr => bA r (List.mem_of_mem_take hr)) ok'
      have bpr := bd_prod bw1.1 bw1.2 bp.1 bp.2
      have ml := mixOne_len (w := frOf m (m + n)) (A.take i) []
      rw [List.length_take, List.length_nil] at ml
      refine ⟨d, l4, _, p.1, _, _, rfl, (hD2.same s3).same s4, by omega, SqT.of hl4, ⟨f4.1.pos, f4.2.1.mono (by decide), f4.2.2.mono (by decide)⟩, ⟨(prodF_ok w1.pos okp.pos).pos, bpr.1.mono (by decide), bpr.2.mono (by decide)⟩, fun H5 s5 hD5 => ?_⟩
      refine ⟨_, rfl, fun c o e => s5 c o (fun z => by rw [z, hd] at e; cases e) (s4 _ _ (s3 _ _ (s2 _ _ e))), ?_⟩
      rw [mixOne_snoc hp]
      exact hD5
    · rintro σ H2 ⟨o5, rfl, s2, hD2⟩
      rw [lA, List.take_length] at hD2
      have nd1 := mixOne_nodup (w := frOf m (m + n)) A [] List.nodup_nil
      have at2 : ∀ (S : Sh) (x : Str), (S.map (·.1)).Nodup → ShB 250 S → (∀ y, FrOk (shAt S y)) → FrOk (shAt (mixOne (frOf n (m + n)) (mixOne (frOf m (m + n)) [] A) S) x) ∧ Bd 700 (shAt (mixOne (frOf n (m + n)) (mixOne (frOf m (m + n)) [] A) S) x).1 ∧ Bd 700 (shAt (mixOne (frOf n (m + n)) (mixOne (frOf m (m + n)) [] A) S) x).2 := by
        intro S x nd bS okS
        have f1 := at1 A x okA.nd bA fun y => (okA.at y).1
        have e := mixOne_at w2.pos S (mixOne (frOf m (m + n)) [] A) x nd f1.1
        have bs := bS.at (by decide) x
        have bp := bd_prod bw2.1 bw2.2 bs.1 bs.2
        have bq := bd_plus (f := shAt (mixOne (frOf m (m + n)) [] A) x) f1.2.1 f1.2.2 bp.1 bp.2
        rw [e]
        exact ⟨plusF_ok f1.1.pos (prodF_ok w2.pos (okS x).pos).pos, bq.1.mono (by decide), bq.2.mono (by decide)⟩
      refine ⟨_, rfl, a2, rfl, ⟨_, s2.tup hvB⟩, for_tup (K := K) (a := a2) (xs := vB) (fun i σ H3 => ∃ o6 : Option V, σ = [some (.ref a1), some (.int m), some (.ref a2), some (.int n), some (.ref d), o6] ∧ Same H H3 ∧ ShD K H3 d (mixOne (frOf n (m + n)) (mixOne (frOf m (m + n)) [] A) (B.take i))) ⟨_, rfl, s2, hD2⟩ (fun i σ H3 _ ⟨_, _, e, _⟩ => e.tup hvB) ?_ ?_⟩
      · rintro i y σ H3 hi ⟨o6, rfl, s3, hD3⟩
        obtain ⟨p, hp, r1, q1, rfl, h1, h2⟩ := paired_at rB hi
        have hmem := List.mem_of_getElem? hp
        have okp := (okB.ok p hmem).1
        have bp := bB p hmem
        refine ⟨_, rfl, _, rfl, r1, _, _, _, rfl, rfl, s3.tup h1, (atI_nat (j := 0) rfl), ?_⟩
        refine ⟨_, rfl, _, rfl, _, rfl, _, _, rfl, rfl, _, _, _, _, rfl, TyOf.int _, TyOf.int _, .inl ⟨n, m + n, rfl, rfl, by omega, bmn.mono (by decide), fun l3 x3 y3 hx3 hl3 => ?_⟩⟩
        obtain ⟨rfl, rfl⟩ := hx3.fr hmn
        have s4 := Same.upd (o := .tup [.int (frT n (m + n)), .int (frB n (m + n))]) hl3
        refine ⟨_, rfl, r1, _, _, _, rfl, rfl, (s3.trans s4).tup h1, (atI_nat (j := 1) rfl), l3, q1, _, _, _, _, rfl, SqT.of upd_same, (s3.trans s4).tup h2, ⟨w2.pos, okp.pos⟩, ⟨bw2.1.mono (by decide), bw2.2.mono (by decide), bp.1.mono (by decide), bp.2.mono (by decide)⟩, fun l4 H5 s5 hl4 => ?_⟩
        have nd' : ((B.take i).map (·.1)).Nodup := by rw [List.map_take]; exact okB.nd.sublist (List.take_sublist ..)
        have ok' : ∀ y, FrOk (shAt (B.take i) y) := fun y => (ShOk.at ⟨nd', fun r hr => okB.ok r (List.mem_of_mem_take hr)⟩ y).1
        have f4 := at2 (B.take i) p.1 nd' (fun r hr => bB r (List.mem_of_mem_take hr)) ok'
        have bpr := bd_prod bw2.1 bw2.2 bp.1 bp.2
        have ml := mixOne_len (w := frOf m (m + n)) A []
        have ml2 := mixOne_len (w := frOf n (m + n)) (B.take i) (mixOne (frOf m (m + n)) [] A)
        rw [List.length_take] at ml2
        rw [List.length_nil] at ml
        refine ⟨d, l4, _, p.1, _, _, rfl, (hD3.same s4).same s5, by omega, SqT.of hl4, ⟨f4.1.pos, f4.2.1.mono (by decide), f4.2.2.mono (by decide)⟩, ⟨(prodF_ok w2.pos okp.pos).pos, bpr.1.mono (by decide), bpr.2.mono (by decide)⟩, fun H6 s6 hD6 => ?_⟩
        refine ⟨_, rfl, fun c o e => s6 c o (fun z => by rw [z, hd] at e; cases e) (s5 _ _ (s4 _ _ (s3 _ _ e))), ?_⟩
        rw [mixOne_snoc hp]
        exact hD6
      · rintro σ H3 ⟨o6, rfl, s3, hD3⟩
        rw [lB, List.take_length] at hD3
        have ml := mixS_len A m n B
        refine ⟨_, rfl, d, mixS A m n B, rfl, hD3, by omega, fun ss pm so nf l H' s' hF' => ?_, fun ss pm so fi H' s' => ?_⟩
        · exact q ss pm so nf l H' (s3.trans s') hF'
        · exact qE ss pm so fi H' (s3.trans s')
noncomputable def sp_losses_by (K : PySem.W.Frag) : Sp := fun vs H Q _ => ∃ (l y : Addr) (xs : List V) (O : Sh) (lt lb D : Int), vs = [.ref l, .ref y] ∧ SqL K H l xs ∧ Paired (ShE K H) xs O ∧ OthOk D O ∧ (0 < D ∧ Bd 1210 D) ∧ O.length ≤ 20 ∧ SqT K H y [.int lt, .int lb] ∧ (FrOk (lt, lb) ∧ 0 ≤ lt ∧ Bd 900 lt ∧ Bd 900 lb) ∧ ∀ p H', Same H H' → ShT K H' p (lossL O (lt, lb)) → Q (.ref p) H'
theorem sc_losses_by : FnScope ["others", "lacking", "together", "rate", "losses"] ["others", "lacking"] (defScope s_losses_by) := ⟨rfl, rfl, rfl, by decide +kernel, rfl, by decide +kernel, by decide +kernel⟩
set_option maxHeartbeats 4000000 in
theorem ok_losses_by (T : Tx K mg "losses_by" s_losses_by ["others", "lacking"]) (B : Bn mg) (d_sum_of : Df P w K mg base 4 "sum_of" ["some"] (sp_sum_of K)) (d_quotient : Df P w K mg base 3 "quotient" ["one", "other"] (sp_quotient K)) (d_lesser : Df P w K mg base 2 "lesser" ["one", "other"] (sp_lesser K)) (d_product : Df P w K mg base 3 "product" ["one", "other"] (sp_product K)) (u_NONE : ∃ p, mg "NONE" = some (.ref p) ∧ ∀ H, SqT K H p [V.int 0, V.int 1]) : Df P w K mg base 5 "losses_by" ["others", "lacking"] (sp_losses_by K) := by
  obtain ⟨pu_NONE, gu_NONE, tu_NONE⟩ := u_NONE
  refine T.df sc_losses_by (fun vs H Q E h => ?_) (fun f cdv A outer s H vs Q E hr h => ?_)
  · obtain ⟨l, y, xs, O, lt, lb, D, rfl, hl, r, ho, ⟨hD, bD⟩, hz, hy, ⟨lok, l0, lb1, lb2⟩, q⟩ := h
    rfl
  · obtain ⟨l, y, xs, O, lt, lb, D, rfl, hl, r, ho, ⟨hD, bD⟩, hz, hy, ⟨lok, l0, lb1, lb2⟩, q⟩ := h
    have hu := hr.units
    refine ⟨_, (pss_cons (ps_set (i := 2) sc_losses_by.nd rfl (by first | exact Or.inl rfl | exact Or.inr rfl) (pe_df d_sum_of hr (pa_cons (pe_lcomp ["pair"] [] (clOf _ []) rfl (by rfl) rfl (by decide +kernel) (by decide +kernel) (clOf_cells (by rfl)) (kin_of (by rfl)) (fun p hp => by cases hp) (fun p hp => by cases hp) (wk_name (by decide)) (pi_list (pv 0)) (fun _ _ _ _ => pg_name (i := 0) (show (["pair"] : List Str).Nodup by decide +kernel) rfl (Or.inl rfl) (Or.inr rfl)) (fun _ _ _ _ => pifs_nil) (fun _ _ _ _ => (pe_ix (ix_tupK (K := K) rfl) (pv 0) pe_int (fun _ _ => rfl)))) pa_nil)))
      (pss_cons (ps_if (pt_cmpR (op_eqD hu) (pv 2) (pe_glob (v := .ref pu_NONE) (by rfl) gu_NONE rfl) (nomark _)) (pss_one (ps_ret (pe_tup pa_nil))) pss_nil)
      (pss_cons (ps_set (i := 3) sc_losses_by.nd rfl (by first | exact Or.inl rfl | exact Or.inr rfl) (pe_df d_quotient hr (pa_cons (pe_df d_lesser hr (pa_cons (pv 1) (pa_cons (pv 2) pa_nil))) (pa_cons (pv 2) pa_nil))))
      (pss_cons (ps_setC (i := 4) sc_losses_by.nd rfl (by first | exact Or.inl rfl | exact Or.inr rfl) ["pair"] [("rate", 3)] (clOf _ ["rate"]) rfl (by rfl) rfl (by decide +kernel) (by decide +kernel) (clOf_cells (by rfl)) (kin_of (by rfl)) (fun p hp => by
        cases hp with
        | head => exact ⟨rfl, rfl⟩
        | tail _ hp => exact (by cases hp)) (fun p hp => by
        cases hp with
        | head => exact rfl
        | tail _ hp => exact (by cases hp)) (wk_name (by decide)) (pi_list (pv 0)) (fun _ _ _ _ => pg_name (i := 0) (show (["pair", "rate"] : List Str).Nodup by decide +kernel) rfl (Or.inl rfl) (Or.inr rfl)) (fun _ _ _ _ => pifs_nil) (fun _ _ _ _ => (pe_tup (pa_cons (pe_ix (ix_tupK (K := K) rfl) (pv 0) pe_int (fun _ _ => rfl)) (pa_cons (pe_df d_product hr (pa_cons (pe_ix (ix_tupK (K := K) rfl) (pv 0) pe_int (fun _ _ => rfl)) (pa_cons (pv 1) pa_nil))) pa_nil)))))
      (pss_one (ps_ret (pe_callTy call_tuple_of (by rfl) B.tuple boot_tuple (pa_cons (pe_lcomp ["loss"] [] (clOf _ []) rfl (by rfl) rfl (by decide +kernel) (by decide +kernel) (clOf_cells (by rfl)) (kin_of (by rfl)) (fun p hp => by cases hp) (fun p hp => by cases hp) (wk_name (by decide)) (pi_list (pv 4)) (fun _ _ _ _ => pg_name (i := 0) (show (["loss"] : List Str).Nodup by decide +kernel) rfl (Or.inl rfl) (Or.inr rfl)) (fun _ _ _ _ => pifs_one (pt_cmpR (op_neDK (K := K) rfl hu) (pe_ix (ix_tupK (K := K) rfl) (pv 0) pe_int (fun _ _ => rfl)) (pe_glob (v := .ref pu_NONE) (by rfl) gu_NONE rfl) (nomark _))) (fun _ _ _ _ => (pv 0))) pa_nil)))))))), ?_⟩
    have lk : xs.length = O.length := Paired.length r
    have hs := ho.hold hD
    have lm : (O.map (·.2)).length = O.length := List.length_map ..
    have hsb := hs.bd hD bD (by omega) (by omega)
    have rok := rest_ok (lack := (lt, lb)) ho hD lok l0
    refine ⟨_, rfl, l, rfl, ⟨_, hl⟩, fun A1 hA1 => ?_⟩
    have s1 : ∀ o : HO, Same H (upd H A1 o) := fun o => Same.upd hA1
    refine compL (K := K) (a := l) (xs := xs) (fun i acc H2 => H2 = upd H A1 (.lst acc) ∧ Paired (fun (v : V) (f : Int × Int) => ∃ p, v = .ref p ∧ SqT K H p [.int f.1, .int f.2]) acc ((O.take i).map (·.2))) ⟨rfl, .nil⟩ (fun i acc H2 _ ⟨e, _⟩ => by rw [e]; exact (s1 _).seq hl) ?_ ?_
    · rintro i y1 acc H2 hi ⟨rfl, pr⟩
      obtain ⟨p, hp, r1, q1, rfl, h1, h2⟩ := paired_at r hi
      refine ⟨_, rfl, r1, _, _, _, rfl, rfl, (s1 _).tup h1, (atI_nat (j := 1) rfl), upd_same, ?_, ?_, ?_⟩
      · rw [Paired.length pr, List.length_map, List.length_take]
        exact small1000 (by omega)
      · rw [upd_upd]
      · rw [List.take_add_one, hp, Option.toList_some, List.map_append]
        exact Paired.app pr (.cons ⟨q1, rfl, h2⟩ .nil)
    · rintro acc H2 ⟨rfl, pr⟩
      rw [lk, List.take_length] at pr
      have sA := s1 (.lst acc)
      refine ⟨A1, acc, O.map (·.2), D, rfl, SqL.of upd_same, Paired.imp (fun _ _ ⟨p, e, h⟩ => ⟨p, e, sA.tup h⟩) pr, fun f hf => ?_, ⟨hD, bD.mono (by decide)⟩, by omega, fun pt H3 s3 hpt => ?_⟩
      · obtain ⟨p, hp, rfl⟩ := List.mem_map.mp hf
        exact (ho.pf p hp).s124
      have s03 := sA.trans s3
      clear pr s3
      generalize hH : sumF (O.map (·.2)) = hold at *
      refine ⟨_, rfl, _, _, IsD.tup hpt (isDs2 _ _), IsD.tup (tu_NONE _) (isDs2 _ _), rfl, rfl, by show 1 ≤ 50; decide, _, rfl, ?_⟩
      rw [eqv_fr]
      refine ite2 (fun h1 => ?_) (fun h1 => ?_)
      · have hz0 : hold = (0, 1) := of_decide_eq_true h1
        refine ⟨len_ok rfl, fun l4 hl4 => ?_⟩
        refine q l4 _ (s03.trans (Same.upd hl4)) ?_
        have e : lossL O (lt, lb) = [] := by unfold lossL; rw [if_pos (hH.trans hz0)]
        rw [e]
        exact ⟨[], SqT.of upd_same, .nil⟩
      · have hz0 : ¬ hold = (0, 1) := fun z => h1 (decide_eq_true z)
        have h0 : 0 < hold.1 := by
          rcases Int.lt_or_eq_of_le hs.nn with a | a
          · exact a
          · exact absurd (frOk_zero hs.ok a.symm) hz0
        refine ⟨_, rfl, _, rfl, y, pt, lt, lb, _, _, rfl, s03.tup hy, hpt, ⟨lok.pos, hs.ok.pos⟩, ⟨lb1.mono (by decide), lb2.mono (by decide), hsb.1.mono (by decide), hsb.2.mono (by decide)⟩, fun pr hpr => ?_⟩
        have bR : Bd 1217 (lessF (lt, lb) hold).1 ∧ Bd 1217 (lessF (lt, lb) hold).2 := by
          rcases less_cases (lt, lb) hold with ⟨e, _⟩ | ⟨e, _⟩
          · rw [e]; exact ⟨lb1.mono (by decide), lb2.mono (by decide)⟩
          · rw [e]; exact ⟨hsb.1.mono (by decide), hsb.2.mono (by decide)⟩
        change SqT K H3 pr [.int (lessF (lt, lb) hold).1, .int (lessF (lt, lb) hold).2] at hpr
        generalize hR : lessF (lt, lb) hold = rest at *
        refine ⟨_, rfl, pr, pt, rest.1, rest.2, _, _, rfl, hpr, hpt, ⟨rok.1.pos, hs.ok.pos⟩, ⟨bR.1.mono (by decide), bR.2.mono (by decide), hsb.1.mono (by decide), hsb.2.mono (by decide)⟩, h0, fun lq H4 s4 hlq => ?_⟩
        change H4 lq = some (.tup [.int (quotF rest hold).1, .int (quotF rest hold).2]) at hlq
        have bq : Bd 2434 (quotF rest hold).1 ∧ Bd 2434 (quotF rest hold).2 := ⟨(Bd.frT (bR.1.mul hsb.2)).mono (by decide), (Bd.frB (bR.2.mul hsb.1)).mono (by decide)⟩
        have qok := quot_ok (f := rest) (g := hold) rok.1.pos h0
        have s04 := s03.trans s4
        refine ⟨_, rfl, l, rfl, ⟨_, s04.seq hl⟩, fun A2 hA2 => ?_⟩
        have hA2H : H A2 = none := s04.free hA2
        refine compL (K := K) (a := l) (xs := xs) (fun i acc H5 => Same H4 H5 ∧ H5 A2 = some (.lst acc) ∧ Paired (ShE K H5) acc ((O.take i).map fun p => (p.1, lossF p.2 rest hold))) ⟨Same.upd hA2, upd_same, .nil⟩ (fun i acc H5 _ ⟨e, _⟩ => (s04.trans e).seq hl) ?_ ?_
        · rintro i y1 acc H5 hi ⟨s5, h5, pr5⟩
          obtain ⟨p, hp, r1, q1, rfl, h1, h2⟩ := paired_at r hi
          have s05 := s04.trans s5
          have pf := ho.pf p (List.mem_of_getElem? hp)
          have pb := pf.bd hD bD
          refine ⟨_, rfl, r1, _, _, _, rfl, rfl, s05.tup h1, (atI_nat (j := 0) rfl), ?_⟩
          refine ⟨_, rfl, r1, _, _, _, rfl, rfl, s05.tup h1, (atI_nat (j := 1) rfl), _, rfl, q1, lq, _, _, _, _, rfl, s05.tup h2, SqT.of (s5 _ _ hlq), ⟨pf.ok.pos, qok.pos⟩, ⟨pb.1.mono (by decide), pb.2.mono (by decide), bq.1.mono (by decide), bq.2.mono (by decide)⟩, fun l6 H6 s6 hl6 => ?_⟩
          change H6 l6 = some (.tup [.int (lossF p.2 rest hold).1, .int (lossF p.2 rest hold).2]) at hl6
          refine ⟨len_ok rfl, fun r7 hr7 => ?_⟩
          have s7 := Same.upd (o := .tup [.str p.1, .ref l6]) hr7
          have s57 := s6.trans s7
          refine ⟨s57 _ _ h5, ?_, ?_, upd_same, ?_⟩
          · rw [Paired.length pr5, List.length_map, List.length_take]
            exact small1000 (by omega)
          · intro b5 o5 e5
            rw [upd_ne (fun z => by rw [z, hA2] at e5; cases e5)]
            exact s57 _ _ (s5 _ _ e5)
          · rw [List.take_add_one, hp, Option.toList_some, List.map_append]
            have tk2 := TK.lst (o := .lst (acc ++ [.ref r7])) (s57 _ _ h5)
            exact Paired.app (Paired.imp (fun _ _ z => (z.same s57).tk tk2) pr5) (.cons (ShE.tk tk2 ⟨r7, l6, rfl, SqT.of upd_same, SqT.of (s7 _ _ hl6)⟩) .nil)
        · rintro acc H5 ⟨s5, h5, pr5⟩
          rw [lk, List.take_length] at pr5
          have s05 := s04.trans s5
          have la : acc.length = O.length := by rw [Paired.length pr5, List.length_map]
          refine ⟨_, rfl, A2, rfl, ⟨_, SqL.of h5⟩, fun A3 hA3 => ?_⟩
          refine compL (K := K) (a := A2) (xs := acc) (fun i ac2 H6 => Same H5 H6 ∧ H6 A3 = some (.lst ac2) ∧ Paired (ShE K H5) ac2 (((O.map fun p => (p.1, lossF p.2 rest hold)).take i).filter fun p => decide (p.2 ≠ (0, 1)))) ⟨Same.upd hA3, upd_same, .nil⟩ (fun i ac2 H6 _ ⟨e, _⟩ => SqL.of (e _ _ h5)) ?_ ?_
          · rintro i y1 ac2 H6 hi ⟨s6, h6, pr6⟩
            obtain ⟨p, hp, r1, q1, rfl, h1, h2⟩ := paired_at pr5 hi
            refine ⟨_, rfl, r1, _, _, _, rfl, rfl, s6.tup h1, (atI_nat (j := 1) rfl), _, _, IsD.tup (s6.tup h2) (isDs2 _ _), IsD.tup (tu_NONE _) (isDs2 _ _), rfl, rfl, by show 1 ≤ 50; decide, _, rfl, ?_⟩
            rw [eqv_fr, List.take_add_one, hp, Option.toList_some, List.filter_append]
            have len6 : ac2.length < sizeLine := by
              rw [Paired.length pr6]
              have h8 := List.length_filter_le (fun p => decide (p.2 ≠ ((0, 1) : Int × Int))) ((O.map fun p => (p.1, lossF p.2 rest hold)).take i)
              rw [List.length_take, List.length_map] at h8
              exact small1000 (by omega)
            refine ite2 (fun h3 => ?_) (fun h3 => ?_)
            · have hne : p.2 ≠ (0, 1) := fun z => by
                rw [decide_eq_true (show (p.2.1, p.2.2) = ((0 : Int), (1 : Int)) from z)] at h3
                exact absurd h3 (by decide)
              refine ⟨_, rfl, h6, len6, ?_, upd_same, ?_⟩
              · intro b5 o5 e5
                rw [upd_ne (fun z => by rw [z, hA3] at e5; cases e5)]
                exact s6 _ _ e5
              · rw [List.filter_cons_of_pos (by simpa using hne), List.filter_nil]
                exact Paired.app pr6 (.cons ⟨r1, q1, rfl, h1, h2⟩ .nil)
            · have hez : p.2 = (0, 1) := Decidable.byContradiction fun z => h3 (by rw [decide_eq_false (show ¬ (p.2.1, p.2.2) = ((0 : Int), (1 : Int)) from z)]; rfl)
              refine ⟨s6, h6, ?_⟩
              rw [List.filter_cons_of_neg (by simp [hez]), List.filter_nil, List.append_nil]
              exact pr6
          · rintro ac2 H6 ⟨s6, h6, pr6⟩
            rw [la, List.take_of_length_le (by rw [List.length_map]; exact Nat.le_refl _)] at pr6
            refine ⟨A3, _, rfl, .inl ⟨SqL.of h6, fun l9 hl9 => ?_⟩⟩
            have s9 := Same.upd (o := .tup ac2) hl9
            refine q l9 _ (s05.trans (s6.trans s9)) ⟨ac2, SqT.of upd_same, ?_⟩
            have e : lossL O (lt, lb) = (O.map fun p => (p.1, lossF p.2 rest hold)).filter fun p => decide (p.2 ≠ (0, 1)) := by
              unfold lossL
              rw [if_neg (by rw [hH]; exact hz0), hH, hR]
            rw [e]
            exact Paired.imp (fun _ _ z => z.same (s6.trans s9)) pr6
noncomputable def sp_pressed (K : PySem.W.Frag) (mg : Str → Option Value) : Sp := fun vs H Q E => ∃ (a y : Addr) (S : Sh) (g k : Str) (t b D : Int), vs = [.ref a, .str g, .str k, .ref y] ∧ ShF K H a S ∧ (ShOk S ∧ NZ S ∧ S.length ≤ 20) ∧ (g ≠ k → PrO D S g k (t, b)) ∧ SqT K H y [.int t, .int b] ∧ (sortedS (S.map (·.1)) = true ∧ ∀ p ∈ S, ¬ FIN < p.2.2) ∧ (g = k → ∀ l r z H', Same H H' → H' l = some (.tup [.ref r, .ref z]) → ShF K H' r S → ShT K H' z [] → Q (.ref l) H') ∧ (g ≠ k → ∀ ss, ss.Perm ((prsT S g k (t, b)).map (·.1)) → sortedS ss = true → ((¬ ∃ p ∈ toldS (prsT S g k (t, b)) ss, FIN < p.2.2) → ∀ l r z H', Same H H' → H' l = some (.tup [.ref r, .ref z]) → ShF K H' r (toldS (prsT S g k (t, b)) ss) → ShT K H' z (lost S g k (t, b)) → Q (.ref l) H') ∧ ((∃ p ∈ toldS (prsT S g k (t, b)) ss, FIN < p.2.2) → ∀ H', Same H H' → E (clsV mg "TooFine") none H'))
theorem sc_pressed : FnScope ["shares", "giver", "taker", "part", "held", "given", "others", "losses", "loss"] ["shares", "giver", "taker", "part"] (defScope s_pressed) := ⟨rfl, rfl, rfl, by decide +kernel, rfl, by decide +kernel, by decide +kernel⟩
set_option maxHeartbeats 4000000 in
theorem ok_pressed (T : Tx K mg "pressed" s_pressed ["shares", "giver", "taker", "part"]) (B : Bn mg) (d_lesser : Df P w K mg base 2 "lesser" ["one", "other"] (sp_lesser K)) (d_losses_by : Df P w K mg base 5 "losses_by" ["others", "lacking"] (sp_losses_by K)) (d_lower_share : Df P w K mg base 4 "lower_share" ["held", "name", "part"] (sp_lower_share K)) (d_raise_share : Df P w K mg base 4 "raise_share" ["held", "name", "part"] (sp_raise_share K)) (d_share_of : Df P w K mg base 1 "share_of" ["shares", "name"] (sp_share_of K)) (d_minus : Df P w K mg base 3 "minus" ["one", "other"] (sp_minus K)) (d_plus : Df P w K mg base 3 "plus" ["one", "other"] (sp_plus K)) (e_told_of : DfE P w K mg base 1 "told_of" ["held"] (sp_told_of K mg)) (d_sum_of : Df P w K mg base 4 "sum_of" ["some"] (sp_sum_of K)) : DfE P w K mg base 6 "pressed" ["shares", "giver", "taker", "part"] (sp_pressed K mg) := by
  have d_told_of := e_told_of.df
  refine T.dfE sc_pressed (fun vs H Q E h => ?_) (fun f cdv A outer s H vs Q E hr h => ?_)
  · obtain ⟨a, y, S, g, k, t, b, D, rfl, hF, ⟨hok, hnz, hl20⟩, hP, hy, ⟨so, nf⟩, qS, q⟩ := h
    rfl
  · obtain ⟨a, y, S, g, k, t, b, D, rfl, hF, ⟨hok, hnz, hl20⟩, hP, hy, ⟨so, nf⟩, qS, q⟩ := h
    refine ⟨_, (pss_cons (ps_set (i := 4) sc_pressed.nd rfl (by first | exact Or.inl rfl | exact Or.inr rfl) (pe_callTy (call_dictP rfl) (by rfl) B.dict boot_dict (pa_cons (pv 0) pa_nil)))
      (pss_cons (ps_if (pt_cmpR op_eq (pv 1) (pv 2) (nomark _)) (pss_one (ps_ret (pe_tup (pa_cons (pe_dfE e_told_of hr (pass_on fun _ _ _ h => h) (pa_cons (pv 4) pa_nil)) (pa_cons (pe_tup pa_nil) pa_nil))))) pss_nil)
      (pss_cons (ps_set (i := 5) sc_pressed.nd rfl (by first | exact Or.inl rfl | exact Or.inr rfl) (pe_df d_lesser hr (pa_cons (pv 3) (pa_cons (pe_df d_share_of hr (pa_cons (pv 0) (pa_cons (pv 1) pa_nil))) pa_nil))))
      (pss_cons (ps_setC (i := 6) sc_pressed.nd rfl (by first | exact Or.inl rfl | exact Or.inr rfl) ["pair"] [("giver", 1), ("taker", 2)] (clOf _ ["taker", "giver"]) rfl (by rfl) rfl (by decide +kernel) (by decide +kernel) (clOf_cells (by rfl)) (kin_of (by rfl)) (fun p hp => by
        cases hp with
        | head => exact ⟨rfl, rfl⟩
        | tail _ hp => exact (by
        cases hp with
        | head => exact ⟨rfl, rfl⟩
        | tail _ hp => exact (by cases hp))) (fun p hp => by
        cases hp with
        | head => exact rfl
        | tail _ hp => exact (by
        cases hp with
        | head => exact rfl
        | tail _ hp => exact (by cases hp))) (wk_name (by decide)) (pi_tup (pv 0)) (fun _ _ _ _ => pg_name (i := 0) (show (["pair", "giver", "taker"] : List Str).Nodup by decide +kernel) rfl (Or.inl rfl) (Or.inr rfl)) (fun _ _ _ _ => pifs_one ((pw_and (pt_cmpR op_ne (pe_ix (ix_tupK (K := K) rfl) (pv 0) pe_int (fun _ _ => rfl)) (pv 1) (nomark _)) (pw_and1 (pt_cmpR op_ne (pe_ix (ix_tupK (K := K) rfl) (pv 0) pe_int (fun _ _ => rfl)) (pv 2) (nomark _)))).pt)) (fun _ _ _ _ => (pv 0)))
      (pss_cons (ps_set (i := 7) sc_pressed.nd rfl (by first | exact Or.inl rfl | exact Or.inr rfl) (pe_df d_losses_by hr (pa_cons (pv 6) (pa_cons (pe_df d_minus hr (pa_cons (pv 3) (pa_cons (pv 5) pa_nil))) pa_nil))))
      (pss_cons (ps_expr (pe_df d_lower_share hr (pa_cons (pv 4) (pa_cons (pv 1) (pa_cons (pv 5) pa_nil)))))
      (pss_cons (ps_for PassesOwn.leaving rfl (pi_tup (pv 7)) (pg_name (i := 8) sc_pressed.nd rfl (by first | exact Or.inl rfl | exact Or.inr rfl)) (pss_one (ps_expr (pe_df d_lower_share hr (pa_cons (pv 4) (pa_cons (pe_ix ix_tup (pv 8) pe_int (fun _ _ => rfl)) (pa_cons (pe_ix ix_tup (pv 8) pe_int (fun _ _ => rfl)) pa_nil)))))))
      (pss_cons (ps_expr (pe_df d_raise_share hr (pa_cons (pv 4) (pa_cons (pv 2) (pa_cons (pe_df d_plus hr (pa_cons (pv 5) (pa_cons (pe_df d_sum_of hr (pa_cons (pe_lcomp ["loss"] [] (clOf _ []) rfl (by rfl) rfl (by decide +kernel) (by decide +kernel) (clOf_cells (by rfl)) (kin_of (by rfl)) (fun p hp => by cases hp) (fun p hp => by cases hp) (wk_name (by decide)) (pi_tup (pv 7)) (fun _ _ _ _ => pg_name (i := 0) (show (["loss"] : List Str).Nodup by decide +kernel) rfl (Or.inl rfl) (Or.inr rfl)) (fun _ _ _ _ => pifs_nil) (fun _ _ _ _ => (pe_ix (ix_tupK (K := K) rfl) (pv 0) pe_int (fun _ _ => rfl)))) pa_nil)) pa_nil))) pa_nil)))))
      (pss_one (ps_ret (pe_tup (pa_cons (pe_dfE e_told_of hr (pass_on fun _ _ _ h => h) (pa_cons (pv 4) pa_nil)) (pa_cons (pv 7) pa_nil))))))))))))), ?_⟩
    obtain ⟨o1, vs1, kv1, d1, d2, d3, d4⟩ := hF.dictE hok.nd
    refine ⟨_, rfl, a, o1, vs1, kv1, rfl, d1, d2, d3, fun d hd => ?_⟩
    have hD := d4 d hd
    have s1 := Same.upd (o := .dK (mergeK [] kv1)) hd
    generalize (upd H d (.dK (mergeK [] kv1))) = H1 at hD s1 ⊢
    have S1 : ∀ {H2 H3 : Hp}, Same H H2 → SameX d H2 H3 → Same H H3 := fun {H2 H3} s x c o e => x c o (fun z => by rw [z, hd] at e; cases e) (s c o e)
    refine ⟨_, rfl, _, rfl, rfl, _, rfl, ?_⟩
    refine ite2 (fun h1 => ?_) (fun h1 => ?_)
    · have e : g = k := V.str.inj (of_decide_eq_true h1)
      refine ⟨_, rfl, d, S, rfl, hD, by omega, fun ss pm so2 nf2 l H2 s2 hF2 => ?_, fun ss pm so2 fi H2 s2 => ?_⟩
      · rw [told_self hok.nd so hnz (fun _ => rfl) rfl pm so2] at hF2
        refine ⟨len_ok rfl, fun z hz => ?_⟩
        have s3 := Same.upd (o := .tup []) hz
        refine ⟨len_ok rfl, fun l4 hl4 => ?_⟩
        have s4 := Same.upd (o := .tup [.ref l, .ref z]) hl4
        exact qS e l4 l z _ (s1.trans (s2.trans (s3.trans s4))) upd_same (hF2.tk (s3.trans s4).tk) ⟨[], SqT.of (s4 _ _ upd_same), .nil⟩
      · obtain ⟨p, hp, h2⟩ := (fine_iff hok.nd pm).mp fi
        exact absurd h2 (nf p hp)
    · have hgk : g ≠ k := fun z => h1 (by rw [z, decide_eq_true rfl])
      have q' := q hgk
      have hP := hP hgk
      have ag := hP.at g
      have gv := hP.gv
      have lk := hP.lk
      have ld := lost_dataO hP
      have hF1 := hF.tk s1.tk
      refine ⟨_, rfl, _, rfl, _, rfl, a, S, g, rfl, hF1.t, fun p hp => ?_⟩
      refine ⟨y, p, t, b, _, _, rfl, s1.tup hy, hp, ⟨hP.fok.pos, ag.1.ok.pos⟩, ⟨hP.b1.mono (by decide), hP.b2.mono (by decide), ag.2.1.mono (by decide), ag.2.2.mono (by decide)⟩, fun pg hpg => ?_⟩
      change SqT K H1 pg [.int (gvn S g (t, b)).1, .int (gvn S g (t, b)).2] at hpg
      obtain ⟨vs2, hv2, r2⟩ := hF1.t
      have lv : vs2.length = S.length := Paired.length r2
      refine ⟨_, rfl, a, rfl, ⟨_, hv2⟩, fun A1 hA1 => ?_⟩
      have sA : ∀ o : HO, Same H1 (upd H1 A1 o) := fun o => Same.upd hA1
      refine compT (K := K) (a := a) (xs := vs2) (fun i acc H2 => H2 = upd H1 A1 (.lst acc) ∧ Paired (ShE K H1) acc (othS (S.take i) g k)) ⟨rfl, .nil⟩ (fun i acc H2 _ ⟨e, _⟩ => by rw [e]; exact (sA _).tup hv2) ?_ ?_
      · rintro i y1 acc H2 hi ⟨rfl, pr⟩
        obtain ⟨p3, hp3, r1, q1, rfl, h31, h32⟩ := paired_at r2 hi
        have snoc := othS_snoc (g := g) (k := k) hp3
        have len : acc.length < sizeLine := by
          rw [Paired.length pr]
          have := othS_len (S.take i) g k
          rw [List.length_take] at this
          exact small1000 (by omega)
        refine ⟨_, rfl, r1, _, _, _, rfl, rfl, (sA _).tup h31, (atI_nat (j := 0) rfl), _, rfl, rfl, _, rfl, ?_⟩
        refine ite2 (fun h3 => ?_) (fun h3 => ?_)
        · have n1 : p3.1 ≠ g := fun z => by
            rw [z, decide_eq_true rfl] at h3
            exact absurd h3 (by decide)
          refine ⟨_, rfl, r1, _, _, _, rfl, rfl, (sA _).tup h31, (atI_nat (j := 0) rfl), _, rfl, rfl, _, rfl, ?_⟩
          refine ite2 (fun h4 => ?_) (fun h4 => ?_)
          · have n2 : p3.1 ≠ k := fun z => by
              rw [z, decide_eq_true rfl] at h4
              exact absurd h4 (by decide)
            refine ⟨_, rfl, upd_same, len, by rw [upd_upd], ?_⟩
            rw [snoc, if_pos ⟨n1, n2⟩]
            exact Paired.app pr (.cons ⟨r1, q1, rfl, h31, h32⟩ .nil)
          · have n2 : ¬ p3.1 ≠ k := fun z => h4 (by rw [decide_eq_false (fun w => z (V.str.inj w))]; rfl)
            refine ⟨rfl, ?_⟩
            rw [snoc, if_neg (fun z => n2 z.2), List.append_nil]
            exact pr
        · have n1 : ¬ p3.1 ≠ g := fun z => h3 (by rw [decide_eq_false (fun w => z (V.str.inj w))]; rfl)
          refine iteF ⟨rfl, ?_⟩
          rw [snoc, if_neg (fun z => n1 z.1), List.append_nil]
          exact pr
      · rintro acc H2 ⟨rfl, pr⟩
        rw [lv, List.take_length] at pr
        have sB := sA (.lst acc)
        have hacc : SqL K (upd H1 A1 (.lst acc)) A1 acc := SqL.of upd_same
        have prB := Paired.imp (fun _ _ z => ShE.same sB z) pr
        have hDB := hD.same sB
        have hpgB := sB.tup hpg
        have s2 := s1.trans sB
        clear pr
        generalize (upd H1 A1 (.lst acc)) = H2 at sB hacc prB hDB hpgB s2 ⊢
        refine ⟨_, rfl, _, rfl, _, rfl, y, pg, t, b, _, _, rfl, s2.tup hy, hpgB, ⟨hP.fok.pos, gv.1.pos⟩, ⟨hP.b1.mono (by decide), hP.b2.mono (by decide), gv.2.2.1.mono (by decide), gv.2.2.2.1.mono (by decide)⟩, fun lm H3 s3 hlm => ?_⟩
        change H3 lm = some (.tup [.int (lck S g (t, b)).1, .int (lck S g (t, b)).2]) at hlm
        refine ⟨A1, lm, acc, othS S g k, _, _, D, rfl, s3.seq hacc, Paired.imp (fun _ _ z => ShE.same s3 z) prB, hP.ot, ⟨hP.d0, hP.bd.mono (by decide)⟩, by have := othS_len S g k; omega, SqT.of hlm, ⟨lk.1, lk.2.1, lk.2.2.1, lk.2.2.2⟩, fun z H4 s4 hz4 => ?_⟩
        change ShT K H4 z (lost S g k (t, b)) at hz4
        have s24 := s2.trans (s3.trans s4)
        have hD4 := (hDB.same s3).same s4
        have hpg4 := s4.tup (s3.tup hpgB)
        refine ⟨_, rfl, _, rfl, _, rfl, d, pg, S, g, _, _, rfl, hD4, by omega, hpg4, ⟨ag.1.ok.pos, ag.2.1.mono (by decide), ag.2.2.mono (by decide)⟩, ⟨gv.1.pos, gv.2.2.1.mono (by decide), gv.2.2.2.1.mono (by decide)⟩, fun H5 x5 hD5 => ?_⟩
        have tk5 : TK H4 H5 := by
          obtain ⟨kk, hkk, _⟩ := hD4
          exact x5.tk hkk
        have s05 := S1 s24 x5
        have hz5 := hz4.tk tk5
        have hpg5 := tk5.sq hpg4
        obtain ⟨vz, hvz, rz⟩ := id hz5
        have lz : vz.length = (lost S g k (t, b)).length := Paired.length rz
        obtain ⟨nd, sub, ll, E1, e0, bE, pE⟩ := ld
        have pl := putS_len S g (minusF (shAt S g) (gvn S g (t, b)))
        refine ⟨_, rfl, z, rfl, ⟨_, hvz⟩, for_tup (K := K) (a := z) (xs := vz) (fun i σ H6 => ∃ o8 : Option V, σ = [some (.ref a), some (.str g), some (.str k), some (.ref y), some (.ref d), some (.ref pg), some (.ref A1), some (.ref z), o8] ∧ Same H H6 ∧ TK H5 H6 ∧ ShD K H6 d (lowAll (putS S g (minusF (shAt S g) (gvn S g (t, b)))) ((lost S g k (t, b)).take i))) ⟨none, rfl, s05, TK.refl _, hD5⟩ (fun i σ H6 _ ⟨_, _, _, e, _⟩ => e.sq hvz) ?_ ?_⟩
        · rintro i y6 σ H6 hi ⟨o8, rfl, s6, t6, hD6⟩
          obtain ⟨p6, hp6, r6, q6, rfl, h61, h62⟩ := paired_at rz hi
          have hm6 := List.mem_of_getElem? hp6
          have pf6 := pE p6 hm6
          have pb6 := pf6.bd e0 bE
          have ndt : (((lost S g k (t, b)).take i).map (·.1)).Nodup := by rw [List.map_take]; exact nd.sublist (List.take_sublist ..)
          have notin : p6.1 ∉ ((lost S g k (t, b)).take i).map (·.1) := by
            have nd1 : (((lost S g k (t, b)).take (i + 1)).map (·.1)).Nodup := by rw [List.map_take]; exact nd.sublist (List.take_sublist ..)
            rw [List.take_add_one, hp6, Option.toList_some, List.map_append, List.nodup_append] at nd1
            exact fun w => nd1.2.2 _ w p6.1 (by simp) rfl
          have om := othS_mem (sub _ (List.mem_map_of_mem hm6))
          have e6 : shAt (lowAll (putS S g (minusF (shAt S g) (gvn S g (t, b)))) ((lost S g k (t, b)).take i)) p6.1 = shAt S p6.1 := by
            rw [lowAll_at _ _ _ ndt, if_neg notin, shAt_put, if_neg om.2.1]
          have a6 := hP.at p6.1
          have ml := lowAll_len ((lost S g k (t, b)).take i) (putS S g (minusF (shAt S g) (gvn S g (t, b))))
          rw [List.length_take] at ml
          refine ⟨_, rfl, _, rfl, r6, _, _, _, rfl, rfl, t6.sq h61, (atI_nat (j := 0) rfl), ?_⟩
          refine ⟨_, rfl, r6, _, _, _, rfl, rfl, t6.sq h61, (atI_nat (j := 1) rfl), d, q6, _, p6.1, _, _, rfl, hD6, by omega, t6.sq h62, ⟨by rw [e6]; exact a6.1.ok.pos, by rw [e6]; exact a6.2.1.mono (by decide), by rw [e6]; exact a6.2.2.mono (by decide)⟩, ⟨pf6.ok.pos, pb6.1.mono (by decide), pb6.2.mono (by decide)⟩, fun H7 x7 hD7 => ?_⟩
          have tk7 : TK H6 H7 := by
            obtain ⟨kk, hkk, _⟩ := hD6
            exact x7.tk hkk
          refine ⟨_, rfl, S1 s6 x7, t6.trans tk7, ?_⟩
          rw [lowAll_snoc hp6]
          exact hD7
        · rintro σ H6 ⟨o8, rfl, s6, t6, hD6⟩
          rw [lz, List.take_length] at hD6
          change ShD K H6 d (prsA S g k (t, b)) at hD6
          have hvz6 := t6.sq hvz
          have rz6 := Paired.imp (fun _ _ w => ShE.tk t6 w) rz
          have hpg6 := t6.sq hpg5
          refine ⟨_, rfl, _, rfl, _, rfl, _, rfl, z, rfl, ⟨_, hvz6⟩, fun A2 hA2 => ?_⟩
          have sC : ∀ o : HO, Same H6 (upd H6 A2 o) := fun o => Same.upd hA2
          refine compT (K := K) (a := z) (xs := vz) (fun i acc H7 => H7 = upd H6 A2 (.lst acc) ∧ Paired (fun (v : V) (f : Int × Int) => ∃ p, v = .ref p ∧ SqT K H6 p [.int f.1, .int f.2]) acc (((lost S g k (t, b)).take i).map (·.2))) ⟨rfl, .nil⟩ (fun i acc H7 _ ⟨e, _⟩ => by rw [e]; exact (sC _).tup hvz6) ?_ ?_
          · rintro i y7 acc H7 hi ⟨rfl, pr⟩
            obtain ⟨p7, hp7, r7, q7, rfl, h71, h72⟩ := paired_at rz6 hi
            refine ⟨_, rfl, r7, _, _, _, rfl, rfl, (sC _).tup h71, (atI_nat (j := 1) rfl), upd_same, ?_, by rw [upd_upd], ?_⟩
            · rw [Paired.length pr, List.length_map, List.length_take]
              exact small1000 (by omega)
            · rw [List.take_add_one, hp7, Option.toList_some, List.map_append]
              exact Paired.app pr (.cons ⟨q7, rfl, h72⟩ .nil)
          · rintro acc2 H7 ⟨rfl, pr⟩
            rw [lz, List.take_length] at pr
            have sD := sC (.lst acc2)
            refine ⟨A2, acc2, (lost S g k (t, b)).map (·.2), E1, rfl, SqL.of upd_same, Paired.imp (fun _ _ ⟨p, e, h⟩ => ⟨p, e, sD.tup h⟩) pr, fun f hf => ?_, ⟨e0, bE⟩, by rw [List.length_map]; omega, fun pt H8 s8 hpt => ?_⟩
            · obtain ⟨p, hp, rfl⟩ := List.mem_map.mp hf
              exact (pE p hp).s124
            have s68 := sD.trans s8
            have rb : FrOk (sumF ((lost S g k (t, b)).map (·.2))) ∧ Bd 1300 (sumF ((lost S g k (t, b)).map (·.2))).1 ∧ Bd 1300 (sumF ((lost S g k (t, b)).map (·.2))).2 := by
              rw [lost_sumO hP]
              have o := hP.ot
              have r := rest_ok o hP.d0 lk.1 lk.2.1
              have hs := o.hold hP.d0
              have lm2 : ((othS S g k).map (·.2)).length = (othS S g k).length := List.length_map ..
              have ol := othS_len S g k
              have sb := hs.bd hP.d0 hP.bd (by omega) (by omega)
              refine ⟨r.1, ?_⟩
              unfold rst
              rcases less_cases (lck S g (t, b)) (sumF ((othS S g k).map (·.2))) with ⟨e, _⟩ | ⟨e, _⟩
              · rw [e]; exact ⟨lk.2.2.1.mono (by decide), lk.2.2.2.mono (by decide)⟩
              · rw [e]; exact ⟨sb.1.mono (by decide), sb.2.mono (by decide)⟩
            refine ⟨pg, pt, _, _, _, _, rfl, s68.tup hpg6, hpt, ⟨gv.1.pos, rb.1.pos⟩, ⟨gv.2.2.1.mono (by decide), gv.2.2.2.1.mono (by decide), rb.2.1.mono (by decide), rb.2.2.mono (by decide)⟩, fun l9 H9 s9 hl9 => ?_⟩
            change H9 l9 = some (.tup [.int (plusF (gvn S g (t, b)) (sumF ((lost S g k (t, b)).map (·.2)))).1, .int (plusF (gvn S g (t, b)) (sumF ((lost S g k (t, b)).map (·.2)))).2]) at hl9
            have bp := bd_plus (f := gvn S g (t, b)) gv.2.2.1 gv.2.2.2.1 rb.2.1 rb.2.2
            have pok := plusF_ok gv.1.pos rb.1.pos
            have s69 := s68.trans s9
            have hD9 := hD6.same s69
            have ek : shAt (prsA S g k (t, b)) k = shAt S k := by
              rw [prsA_atO hP, if_neg (fun w => (othS_mem (sub _ w)).2.2 rfl), shAt_put, if_neg (Ne.symm hgk)]
            have ak := hP.at k
            have ml := lowAll_len (lost S g k (t, b)) (putS S g (minusF (shAt S g) (gvn S g (t, b))))
            have ml2 : (prsA S g k (t, b)).length ≤ 41 := by unfold prsA; omega
            refine ⟨d, l9, _, k, _, _, rfl, hD9, by omega, SqT.of hl9, ⟨by rw [ek]; exact ak.1.ok.pos, by rw [ek]; exact ak.2.1.mono (by decide), by rw [ek]; exact ak.2.2.mono (by decide)⟩, ⟨pok.pos, bp.1.mono (by decide), bp.2.mono (by decide)⟩, fun HA xA hDA => ?_⟩
            have tkA : TK H9 HA := by
              obtain ⟨kk, hkk, _⟩ := hD9
              exact xA.tk hkk
            change ShD K HA d (prsT S g k (t, b)) at hDA
            have sA2 := S1 (s6.trans s69) xA
            have pl2 := putS_len (prsA S g k (t, b)) k (plusF (shAt (prsA S g k (t, b)) k) (plusF (gvn S g (t, b)) (sumF ((lost S g k (t, b)).map (·.2)))))
            have lT : (prsT S g k (t, b)).length ≤ 42 := by unfold prsT; omega
            have hzA := ((hz5.tk t6).same s69).tk tkA
            refine ⟨_, rfl, d, _, rfl, hDA, by omega, fun ss pm so2 nf2 l HB sB2 hFB => ?_, fun ss pm so2 fi HB sB2 => ?_⟩
            · refine ⟨_, rfl, len_ok rfl, fun lz2 hlz2 => ?_⟩
              have sE := Same.upd (o := .tup [.ref l, .ref z]) hlz2
              exact (q' ss pm so2).1 nf2 lz2 l z _ (sA2.trans (sB2.trans sE)) upd_same (hFB.tk sE.tk) ((hzA.same sB2).same sE)
            · exact (q' ss pm so2).2 fi HB (sA2.trans sB2)
noncomputable def sp_law_done (K : PySem.W.Frag) : Sp := fun vs H Q _ => ∃ (a b e p : Addr) (S F : Sh) (ss : List Str) (way many t c : Int) (g k : Str), vs = [.ref a, .ref b, .ref e] ∧ ShF K H a S ∧ ShF K H b F ∧ SqT K H e [.int way, .str g, .str k, .ref p, .int many] ∧ SqT K H p [.int t, .int c] ∧ DeedOk ss S F way g k (t, c) many ∧ ∀ l H', Same H H' → DoneR K H' l S F way g k (t, c) many → Q (.ref l) H'
theorem sc_law_done : FnScope ["_law_shares", "_law_first", "_law_deed_here", "_law_way", "_law_giver", "_law_taker", "_law_part", "_law_many", "_law_found", "e"] ["_law_shares", "_law_first", "_law_deed_here"] (defScope s_law_done) := ⟨rfl, rfl, rfl, by decide +kernel, rfl, by decide +kernel, by decide +kernel⟩
set_option maxHeartbeats 4000000 in
theorem ok_law_done {C_LandError : Addr} {C_TooLittle : Addr} {C_TooFine : Addr} (T : Tx K mg "_law_done" s_law_done ["_law_shares", "_law_first", "_law_deed_here"]) (B : Bn mg) (e_mixed : DfE P w K mg base 5 "mixed" ["one", "many", "other", "more"] (sp_mixed K mg)) (e_pressed : DfE P w K mg base 6 "pressed" ["shares", "giver", "taker", "part"] (sp_pressed K mg)) (e_hand_on : DfE P w K mg base 5 "hand_on" ["shares", "giver", "taker", "part"] (sp_hand_on K mg)) (z_LandError : ExcCl K mg "LandError" C_LandError) (z_TooLittle : ExcCl K mg "TooLittle" C_TooLittle) (z_TooFine : ExcCl K mg "TooFine" C_TooFine) (a_TooLittle : ExcA K C_TooLittle) (a_TooFine : ExcA K C_TooFine) (k_TooLittle_LandError : PySem.W.kitOne K (.ref C_TooLittle) (.ref C_LandError) = some true) (k_TooLittle_TooFine : PySem.W.kitOne K (.ref C_TooLittle) (.ref C_TooFine) = some false) (k_TooFine_LandError : PySem.W.kitOne K (.ref C_TooFine) (.ref C_LandError) = some true) (k_TooFine_TooLittle : PySem.W.kitOne K (.ref C_TooFine) (.ref C_TooLittle) = some false) (m_TooLittle_TooLittle : PySem.W.mroIn K C_TooLittle (.ref C_TooLittle) = some true) (m_TooFine_TooFine : PySem.W.mroIn K C_TooFine (.ref C_TooFine) = some true) (o_TooFine_TooLittle : PySem.W.mroIn K C_TooFine (.ref C_TooLittle) = some false) : Df P w K mg base 7 "_law_done" ["_law_shares", "_law_first", "_law_deed_here"] (sp_law_done K) := by
  have d_mixed := e_mixed.df
  have d_pressed := e_pressed.df
  have d_hand_on := e_hand_on.df
  refine T.df sc_law_done (fun vs H Q E h => ?_) (fun f cdv A outer s H vs Q E hr h => ?_)
  · obtain ⟨a, b, e, p, S, F, ss, way, many, t, c, g, k, rfl, hS, hF, he, hp, hO, q⟩ := h
    rfl
  · obtain ⟨a, b, e, p, S, F, ss, way, many, t, c, g, k, rfl, hS, hF, he, hp, hO, q⟩ := h
    refine ⟨_, (pss_cons (ps_asg (pv 2) (pg_tup rfl (pgs_cons (pg_name (i := 3) sc_law_done.nd rfl (by first | exact Or.inl rfl | exact Or.inr rfl)) (pgs_cons (pg_name (i := 4) sc_law_done.nd rfl (by first | exact Or.inl rfl | exact Or.inr rfl)) (pgs_cons (pg_name (i := 5) sc_law_done.nd rfl (by first | exact Or.inl rfl | exact Or.inr rfl)) (pgs_cons (pg_name (i := 6) sc_law_done.nd rfl (by first | exact Or.inl rfl | exact Or.inr rfl)) (pgs_cons (pg_name (i := 7) sc_law_done.nd rfl (by first | exact Or.inl rfl | exact Or.inr rfl)) pgs_nil)))))))
      (pss_cons (ps_tryB (m := 9) sc_law_done.nd rfl rfl (fun _ _ => (pss_one (ps_if (pt_cmpR op_eq (pv 3) pe_int (nomark _)) (pss_one (ps_set (i := 8) sc_law_done.nd rfl (by first | exact Or.inl rfl | exact Or.inr rfl) (pe_tup (pa_cons (pe_dfE e_mixed hr (pass_try fun _ _ _ h => h) (pa_cons (pv 0) (pa_cons (pv 7) (pa_cons (pv 1) (pa_cons pe_int pa_nil))))) (pa_cons (pe_tup pa_nil) pa_nil))))) (pss_one (ps_if (pt_cmpR op_gt (pv 3) pe_int (nomark _)) (pss_one (ps_set (i := 8) sc_law_done.nd rfl (by first | exact Or.inl rfl | exact Or.inr rfl) (pe_dfE e_pressed hr (pass_try fun _ _ _ h => h) (pa_cons (pv 0) (pa_cons (pv 4) (pa_cons (pv 5) (pa_cons (pv 6) pa_nil))))))) (pss_one (ps_set (i := 8) sc_law_done.nd rfl (by first | exact Or.inl rfl | exact Or.inr rfl) (pe_tup (pa_cons (pe_dfE e_hand_on hr (pass_try fun _ _ _ h => h) (pa_cons (pv 0) (pa_cons (pv 4) (pa_cons (pv 5) (pa_cons (pv 6) pa_nil))))) (pa_cons (pe_tup pa_nil) pa_nil)))))))))) (fun _ => (pss_one (ps_ret (pe_tup (pa_cons pe_str (pa_cons (pe_and (pe_callB (call_isxK (K := K) rfl) (by rfl) B.isinstance boot_isinstance (pa_cons (pv 9) (pa_cons (pe_glob (v := .ref C_LandError) (by rfl) z_LandError.mg rfl) pa_nil))) (pe_one (pe_not (pe_callB (call_isxK (K := K) rfl) (by rfl) B.isinstance boot_isinstance (pa_cons (pv 9) (pa_cons (pe_glob (v := .ref C_TooFine) (by rfl) z_TooFine.mg rfl) pa_nil)))))) pa_nil)))))) (fun _ => (pss_one (ps_ret (pe_tup (pa_cons pe_str (pa_cons (pe_and (pe_callB (call_isxK (K := K) rfl) (by rfl) B.isinstance boot_isinstance (pa_cons (pv 9) (pa_cons (pe_glob (v := .ref C_LandError) (by rfl) z_LandError.mg rfl) pa_nil))) (pe_one (pe_not (pe_callB (call_isxK (K := K) rfl) (by rfl) B.isinstance boot_isinstance (pa_cons (pv 9) (pa_cons (pe_glob (v := .ref C_TooLittle) (by rfl) z_TooLittle.mg rfl) pa_nil)))))) pa_nil)))))))
      (pss_one (ps_ret (pe_tup (pa_cons pe_str (pa_cons (pv 8) pa_nil))))))), ?_⟩
    have ok := hO.gS
    have okF := hO.gF
    have lS := ok.len
    have lF := okF.len
    have h8 := hO.h8
    have m1 := hO.m1
    have m2 := hO.m2
    have B70 : ∀ {i : Int}, 0 ≤ i → i ≤ 1000 → Bd 70 i := fun a b => Bd.of (by
      have e : (2 : Nat) ^ 70 = 1180591620717411303424 := by decide
      rw [e]
      omega)
    have shb : ∀ {T : Sh}, GS ss T → ShB 250 T := fun h p hp => ⟨(h.bd hp).1.mono (by decide), (h.bd hp).2.mono (by decide)⟩
    obtain ⟨ro1, ro2, ro3⟩ := resD_ok hO
    refine ⟨_, rfl, e, _, rfl, he, rfl, _, _, rfl, _, _, rfl, _, _, rfl, _, _, rfl, _, _, rfl, rfl, ?_⟩
    refine ⟨_, rfl, rfl, _, rfl, ?_⟩
    refine ite2 (fun w4 => ?_) (fun w4 => ?_)
    · have w4 : way = 4 := V.int.inj (of_decide_eq_true w4)
      have nl : ¬ Little S way g (t, c) := fun z => by
        have := z.1
        omega
      have eD : resD S F way g k (t, c) many = mixS S many 3 F := by unfold resD; rw [if_pos w4]
      have eL : lossD S way g k (t, c) = [] := by unfold lossD; rw [if_pos w4]
      refine ⟨_, rfl, _, rfl, _, rfl, a, b, S, F, many, 3, rfl, hS, hF, ⟨ok.shok, okF.shok⟩, ⟨by omega, by omega⟩, ⟨shb ok, shb okF⟩, ⟨by omega, by decide⟩, ⟨B70 (by omega) (by omega), B70 (by decide) (by decide)⟩, fun tt pm so nf r H1 s1 hr1 => ?_, fun tt pm so fi H1 s1 => ⟨C_TooFine, clsV_eq z_TooFine, .inr ⟨⟨z_TooFine.ok, C_TooLittle, z_TooLittle, o_TooFine_TooLittle⟩, hit_mk z_TooFine z_TooFine m_TooFine_TooFine, fun x σ' hlen hx => ?_⟩⟩⟩
      · refine ⟨len_ok rfl, fun z hz => ?_⟩
        have s2 := Same.upd (o := .tup []) hz
        refine ⟨len_ok rfl, fun x hx => ?_⟩
        have s3 := Same.upd (o := .tup [.ref r, .ref z]) hx
        refine ⟨_, rfl, len_ok rfl, fun l hl => ?_⟩
        have s4 := Same.upd (o := .tup [.str (Str.ofString "made"), .ref x]) hl
        rw [← eD] at pm nf hr1
        exact q l _ (s1.trans (s2.trans (s3.trans s4))) (.inr (.inr ⟨nl, fun z => nf ((fine_iff ro1.nd pm).mpr z), x, r, z, tt, upd_same, s4.tup (SqT.of upd_same), pm, so, hr1.tk (s2.trans (s3.trans s4)).tk, by rw [eL]; exact ⟨[], SqT.of (s4 _ _ (s3 _ _ upd_same)), .nil⟩⟩))
      · rw [← eD] at pm fi
        refine ⟨_, at_set (n := 10) hlen (by decide), x, C_TooFine, _, .ref C_LandError, true, rfl, upd_same, a_TooFine, rfl, (fun _ h => h), k_TooFine_LandError, _, rfl, iteT ?_⟩
        refine ⟨_, at_set (n := 10) hlen (by decide), x, C_TooFine, _, .ref C_TooLittle, false, rfl, upd_same, a_TooFine, rfl, (fun _ h => h), k_TooFine_TooLittle, _, rfl, len_ok rfl, fun l hl => ?_⟩
        exact q l _ (s1.trans ((Same.upd hx).trans (Same.upd hl))) (.inr (.inl ⟨nl, (fine_iff ro1.nd pm).mp fi, upd_same⟩))
    · have w4 : ¬ way = 4 := fun z => w4 (by rw [z, decide_eq_true rfl])
      refine ⟨_, rfl, _, _, rfl, rfl, _, rfl, ?_⟩
      refine ite2 (fun w2 => ?_) (fun w2 => ?_)
      · have w2 : 1 < way := of_decide_eq_true w2
        have nl : ¬ Little S way g (t, c) := fun z => by
          have := z.1
          omega
        by_cases hgk : g = k
        · have eD : resD S F way g k (t, c) many = S := by unfold resD; rw [if_neg w4, if_pos hgk]
          have eL : lossD S way g k (t, c) = [] := by unfold lossD; rw [if_neg w4, if_pos hgk]
          have nf : ¬ Fine S F way g k (t, c) many := fun ⟨p, hp, z⟩ => by
            rw [eD] at hp
            exact ok.fin p hp z
          refine ⟨_, rfl, _, rfl, _, rfl, _, rfl, a, p, S, g, k, t, c, 0, rfl, hS, ⟨ok.shok, ok.nz, by omega⟩, fun z => absurd hgk z, hp, ⟨ok.so, ok.fin⟩, fun _ x r z H1 s1 hx hr1 hz1 => ?_, fun z => absurd hgk z⟩
          refine ⟨_, rfl, len_ok rfl, fun l hl => ?_⟩
          have s4 := Same.upd (o := .tup [.str (Str.ofString "made"), .ref x]) hl
          refine q l _ (s1.trans s4) (.inr (.inr ⟨nl, nf, x, r, z, S.map (·.1), upd_same, SqT.of (s4 _ _ hx), by rw [eD], ok.so, ?_, by rw [eL]; exact hz1.same s4⟩))
          rw [eD, told_self ok.nd ok.so ok.nz (fun _ => rfl) rfl (.refl _) ok.so]
          exact hr1.tk s4.tk
        · have eD : resD S F way g k (t, c) many = prsT S g k (t, c) := by unfold resD; rw [if_neg w4, if_neg hgk]
          have eL : lossD S way g k (t, c) = lost S g k (t, c) := by unfold lossD; rw [if_neg w4, if_neg hgk]
          obtain ⟨D, hP⟩ := hO.pro hgk
          refine ⟨_, rfl, _, rfl, _, rfl, _, rfl, a, p, S, g, k, t, c, D, rfl, hS, ⟨ok.shok, ok.nz, by omega⟩, fun _ => hP, hp, ⟨ok.so, ok.fin⟩, fun z => absurd z hgk, fun _ tt pm so => ⟨fun nf x r z H1 s1 hx hr1 hz1 => ?_, fun fi H1 s1 => ⟨C_TooFine, clsV_eq z_TooFine, .inr ⟨⟨z_TooFine.ok, C_TooLittle, z_TooLittle, o_TooFine_TooLittle⟩, hit_mk z_TooFine z_TooFine m_TooFine_TooFine, fun x σ' hlen hx => ?_⟩⟩⟩⟩
          · refine ⟨_, rfl, len_ok rfl, fun l hl => ?_⟩
            have s4 := Same.upd (o := .tup [.str (Str.ofString "made"), .ref x]) hl
            rw [← eD] at pm nf hr1
            exact q l _ (s1.trans s4) (.inr (.inr ⟨nl, fun z => nf ((fine_iff ro1.nd pm).mpr z), x, r, z, tt, upd_same, SqT.of (s4 _ _ hx), pm, so, hr1.tk s4.tk, by rw [eL]; exact hz1.same s4⟩))
          · rw [← eD] at pm fi
            refine ⟨_, at_set (n := 10) hlen (by decide), x, C_TooFine, _, .ref C_LandError, true, rfl, upd_same, a_TooFine, rfl, (fun _ h => h), k_TooFine_LandError, _, rfl, iteT ?_⟩
            refine ⟨_, at_set (n := 10) hlen (by decide), x, C_TooFine, _, .ref C_TooLittle, false, rfl, upd_same, a_TooFine, rfl, (fun _ h => h), k_TooFine_TooLittle, _, rfl, len_ok rfl, fun l hl => ?_⟩
            exact q l _ (s1.trans ((Same.upd hx).trans (Same.upd hl))) (.inr (.inl ⟨nl, (fine_iff ro1.nd pm).mp fi, upd_same⟩))
      · have w2 : ¬ 1 < way := fun z => w2 (decide_eq_true z)
        refine ⟨_, rfl, _, rfl, _, rfl, _, rfl, a, p, S, g, k, t, c, rfl, hS, ok.shok, by omega, fun u hu => ⟨(ok.bd hu).1.mono (by decide), (ok.bd hu).2.mono (by decide)⟩, hp, ⟨hO.fok.pos, hO.b1.mono (by decide), hO.b2.mono (by decide)⟩, fun lt => ⟨C_TooLittle, clsV_eq z_TooLittle, .inl ⟨hit_mk z_TooLittle z_TooLittle m_TooLittle_TooLittle, fun x σ' hlen hx => ?_⟩⟩, fun nlt tt pm so => ⟨fun nf r H1 s1 hr1 => ?_, fun fi H1 s1 => ⟨C_TooFine, clsV_eq z_TooFine, .inr ⟨⟨z_TooFine.ok, C_TooLittle, z_TooLittle, o_TooFine_TooLittle⟩, hit_mk z_TooFine z_TooFine m_TooFine_TooFine, fun x σ' hlen hx => ?_⟩⟩⟩⟩
        · refine ⟨_, at_set (n := 10) hlen (by decide), x, C_TooLittle, _, .ref C_LandError, true, rfl, upd_same, a_TooLittle, rfl, (fun _ h => h), k_TooLittle_LandError, _, rfl, iteT ?_⟩
          refine ⟨_, at_set (n := 10) hlen (by decide), x, C_TooLittle, _, .ref C_TooFine, false, rfl, upd_same, a_TooLittle, rfl, (fun _ h => h), k_TooLittle_TooFine, _, rfl, len_ok rfl, fun l hl => ?_⟩
          exact q l _ ((Same.upd hx).trans (Same.upd hl)) (.inl ⟨⟨by omega, lt⟩, upd_same⟩)
        · have nl : ¬ Little S way g (t, c) := fun z => nlt z.2
          obtain ⟨uu, pm2, so2, e2⟩ := hand_told hO (by omega) nlt pm so
          have eL : lossD S way g k (t, c) = [] := by
            unfold lossD
            rw [if_neg w4]
            by_cases hgk : g = k
            · rw [if_pos hgk]
            · rw [if_neg hgk]; exact (hand_prs hO hgk nlt).2
          rw [e2] at nf hr1
          refine ⟨len_ok rfl, fun z hz => ?_⟩
          have s2 := Same.upd (o := .tup []) hz
          refine ⟨len_ok rfl, fun x hx => ?_⟩
          have s3 := Same.upd (o := .tup [.ref r, .ref z]) hx
          refine ⟨_, rfl, len_ok rfl, fun l hl => ?_⟩
          have s4 := Same.upd (o := .tup [.str (Str.ofString "made"), .ref x]) hl
          exact q l _ (s1.trans (s2.trans (s3.trans s4))) (.inr (.inr ⟨nl, fun z => nf ((fine_iff ro1.nd pm2).mpr z), x, r, z, uu, upd_same, s4.tup (SqT.of upd_same), pm2, so2, hr1.tk (s2.trans (s3.trans s4)).tk, by rw [eL]; exact ⟨[], SqT.of (s4 _ _ (s3 _ _ upd_same)), .nil⟩⟩))
        · have nl : ¬ Little S way g (t, c) := fun z => nlt z.2
          obtain ⟨uu, pm2, so2, e2⟩ := hand_told hO (by omega) nlt pm so
          rw [e2] at fi
          refine ⟨_, at_set (n := 10) hlen (by decide), x, C_TooFine, _, .ref C_LandError, true, rfl, upd_same, a_TooFine, rfl, (fun _ h => h), k_TooFine_LandError, _, rfl, iteT ?_⟩
          refine ⟨_, at_set (n := 10) hlen (by decide), x, C_TooFine, _, .ref C_TooLittle, false, rfl, upd_same, a_TooFine, rfl, (fun _ h => h), k_TooFine_TooLittle, _, rfl, len_ok rfl, fun l hl => ?_⟩
          exact q l _ (s1.trans ((Same.upd hx).trans (Same.upd hl))) (.inr (.inl ⟨nl, (fine_iff ro1.nd pm2).mp fi, upd_same⟩))
noncomputable def sp_law_step (K : PySem.W.Frag) : Sp := fun vs H Q _ => ∃ (a b e p : Addr) (S F : Sh) (ss : List Str) (way many t c : Int) (g k : Str), vs = [.ref a, .ref b, .ref e] ∧ ShF K H a S ∧ ShF K H b F ∧ SqT K H e [.int way, .str g, .str k, .ref p, .int many] ∧ SqT K H p [.int t, .int c] ∧ DeedOk ss S F way g k (t, c) many ∧ (∀ s ∈ ss, IsNm s) ∧ ∀ l r S' H', Same H H' → H' l = some (.tup [.bl true, .ref r]) → ShF K H' r S' → StepR S F way g k (t, c) many S' → Q (.ref l) H'
theorem sc_law_step : FnScope ["_law_shares", "_law_first", "_law_deed_here", "_law_found", "_law_held", "_law_losses", "_law_bottoms"] ["_law_shares", "_law_first", "_law_deed_here"] (defScope s_law_step) := ⟨rfl, rfl, rfl, by decide +kernel, rfl, by decide +kernel, by decide +kernel⟩
set_option maxHeartbeats 4000000 in
theorem ok_law_step (T : Tx K mg "_law_step" s_law_step ["_law_shares", "_law_first", "_law_deed_here"]) (B : Bn mg) (d_law_done : Df P w K mg base 7 "_law_done" ["_law_shares", "_law_first", "_law_deed_here"] (sp_law_done K)) (d_law_would : Df P w K mg base 2 "_law_would" ["_law_shares", "_law_first", "_law_deed_here"] (sp_law_would K)) (d_law_under : Df P w K mg base 1 "_law_under" ["_law_one", "_law_other"] (sp_law_under K)) (d_law_good : Df P w K mg base 2 "_law_good" ["_law_shares"] (sp_law_good K)) (d_law_alike : Df P w K mg base 1 "_law_alike" ["_law_pairs", "_law_due"] (sp_law_alike K)) (d_law_fraction : Df P w K mg base 2 "_law_fraction" ["_law_top", "_law_bottom"] (sp_law_fraction K)) : Df P w K mg base 8 "_law_step" ["_law_shares", "_law_first", "_law_deed_here"] (sp_law_step K) := by
  refine T.df sc_law_step (fun vs H Q E h => ?_) (fun f cdv A outer s H vs Q E hr h => ?_)
  · obtain ⟨a, b, e, p, S, F, ss, way, many, t, c, g, k, rfl, hS, hF, he, hp, hO, hN, q⟩ := h
    rfl
  · obtain ⟨a, b, e, p, S, F, ss, way, many, t, c, g, k, rfl, hS, hF, he, hp, hO, hN, q⟩ := h
    have hu := hr.units
    refine ⟨_, (pss_cons (ps_set (i := 3) sc_law_step.nd rfl (by first | exact Or.inl rfl | exact Or.inr rfl) (pe_df d_law_done hr (pa_cons (pv 0) (pa_cons (pv 1) (pa_cons (pv 2) pa_nil)))))
      (pss_consE (ps_if ((pw_and (pt_cmpR op_lt (pe_ix ix_tup (pv 2) pe_int (fun _ _ => rfl)) pe_int (nomark _)) (pw_and1 (pt_val (pe_df d_law_under hr (pa_cons (pe_dget2 (hu_of hr) (pe_callTy (call_dictP rfl) (by rfl) B.dict boot_dict (pa_cons (pv 0) pa_nil)) (pe_ix ix_tup (pv 2) pe_int (fun _ _ => rfl)) (pe_tup (pa_cons pe_int (pa_cons pe_int pa_nil))) ⟨rfl, rfl, rfl, rfl⟩) (pa_cons (pe_ix ix_tup (pv 2) pe_int (fun _ _ => rfl)) pa_nil)))))).pt) (pss_one (ps_ret (pe_tup (pa_cons (pe_cmpR (op_eqD hu) (pv 3) (pe_tup (pa_cons pe_str (pa_cons pe_bl pa_nil))) (nomark _)) (pa_cons (pv 0) pa_nil))))) pss_nil)
      (pss_cons (ps_asg (pe_df d_law_would hr (pa_cons (pv 0) (pa_cons (pv 1) (pa_cons (pv 2) pa_nil)))) (pg_tup rfl (pgs_cons (pg_name (i := 4) sc_law_step.nd rfl (by first | exact Or.inl rfl | exact Or.inr rfl)) (pgs_cons (pg_name (i := 5) sc_law_step.nd rfl (by first | exact Or.inl rfl | exact Or.inr rfl)) pgs_nil))))
      (pss_cons (ps_if (pt_cmpR op_ne (pe_ix ix_tup (pv 3) pe_int (fun _ _ => rfl)) pe_str (nomark _)) (pss_cons (ps_setC (i := 6) sc_law_step.nd rfl (by first | exact Or.inl rfl | exact Or.inr rfl) ["_law_name"] [("_law_held", 4)] (clOf _ ["_law_held"]) rfl (by rfl) rfl (by decide +kernel) (by decide +kernel) (clOf_cells (by rfl)) (kin_of (by rfl)) (fun p hp => by
        cases hp with
        | head => exact ⟨rfl, rfl⟩
        | tail _ hp => exact (by cases hp)) (fun p hp => by
        cases hp with
        | head => exact rfl
        | tail _ hp => exact (by cases hp)) (wk_name (by decide)) (pi_dict (pv 4)) (fun _ _ _ _ => pg_name (i := 0) (show (["_law_name", "_law_held"] : List Str).Nodup by decide +kernel) rfl (Or.inl rfl) (Or.inr rfl)) (fun _ _ _ _ => pifs_nil) (fun _ _ _ _ => (pe_ix (ix_tupK (K := K) rfl) (pe_df d_law_fraction hr (pa_cons (pe_ix (ix_tupK (K := K) rfl) (pe_dget (hu_of hr) (pv 1) (pv 0) (fun _ _ => rfl)) pe_int (fun _ _ => rfl)) (pa_cons (pe_ix (ix_tupK (K := K) rfl) (pe_dget (hu_of hr) (pv 1) (pv 0) (fun _ _ => rfl)) pe_int (fun _ _ => rfl)) pa_nil))) pe_int (fun _ _ => rfl))))
      (pss_one (ps_ret (pe_tup (pa_cons (pe_and (pe_cmpR (op_eqD hu) (pv 3) (pe_tup (pa_cons pe_str (pa_cons pe_bl pa_nil))) (nomark _)) (pe_one (pe_cmpR op_gt (pe_callB (call_maxL rfl) (by rfl) B.max boot_max (pa_cons (pv 6) pa_nil)) (pe_op op_pow pe_int pe_int) (nomark _)))) (pa_cons (pv 0) pa_nil)))))) pss_nil)
      (pss_cons (ps_if ((pw_or (pt_not (pt_val (pe_callB call_isT (by rfl) B.isinstance boot_isinstance (pa_cons (pe_ix ix_tup (pv 3) pe_int (fun _ _ => rfl)) (pa_cons (pe_bltn (x := "tuple") (v := .ty "tuple") (by rfl) B.tuple boot_tuple rfl) pa_nil))))) (pw_or (pt_cmpR op_ne (pe_callB call_len_seq (by rfl) B.len PySem.boot_len (pa_cons (pe_ix ix_tup (pv 3) pe_int (fun _ _ => rfl)) pa_nil)) pe_int (nomark _)) (pw_or1 (pt_not (pt_val (pe_df d_law_good hr (pa_cons (pe_ix ix_tup (pe_ix ix_tup (pv 3) pe_int (fun _ _ => rfl)) pe_int (fun _ _ => rfl)) pa_nil))))))).pt) (pss_one (ps_ret (pe_tup (pa_cons pe_bl (pa_cons (pv 0) pa_nil))))) pss_nil)
      (pss_one (ps_ret (pe_tup (pa_cons (pe_and (pe_df d_law_alike hr (pa_cons (pe_ix ix_tup (pe_ix ix_tup (pv 3) pe_int (fun _ _ => rfl)) pe_int (fun _ _ => rfl)) (pa_cons (pv 4) pa_nil))) (pe_one (pe_df d_law_alike hr (pa_cons (pe_ix ix_tup (pe_ix ix_tup (pv 3) pe_int (fun _ _ => rfl)) pe_int (fun _ _ => rfl)) (pa_cons (pv 5) pa_nil))))) (pa_cons (pe_ix ix_tup (pe_ix ix_tup (pv 3) pe_int (fun _ _ => rfl)) pe_int (fun _ _ => rfl)) pa_nil)))))))))), ?_⟩
    have ok := hO.gS
    have h8 := hO.h8
    have lS := ok.len
    refine ⟨_, rfl, _, rfl, _, rfl, a, b, e, p, S, F, ss, way, many, t, c, g, k, rfl, hS, hF, he, hp, hO, fun lf H1 s1 hf => ?_⟩
    have he1 := s1.tup he
    have hp1 := s1.tup hp
    refine ⟨fun σ' H' => σ' = [some (.ref a), some (.ref b), some (.ref e), some (.ref lf), none, none, none] ∧ Same H1 H' ∧ ¬ Little S way g (t, c), ?_, ?_⟩
    · refine ⟨_, rfl, e, _, _, _, rfl, rfl, he1, (atI_nat (j := 0) rfl), _, _, rfl, rfl, _, rfl, ?_⟩
      refine ite2 (fun w2 => ?_) (fun w2 => ?_)
      · have w2 : way < 2 := of_decide_eq_true w2
        obtain ⟨oS, vS, kS, f1, f2, f3, f4⟩ := (hS.tk s1.tk).dictE ok.nd
        refine ⟨_, rfl, a, oS, vS, kS, rfl, f1, f2, f3, fun dS hdS => ?_⟩
        have hDS := f4 dS hdS
        have sd := Same.upd (o := .dK (mergeK [] kS)) hdS
        generalize (upd H1 dS (.dK (mergeK [] kS))) = J1 at hDS sd ⊢
        refine ⟨dS, rfl, hDS.isDD, _, rfl, e, _, _, _, rfl, rfl, sd.tup he1, (atI_nat (j := 1) rfl), len_ok rfl, fun l2 hl2 => ?_⟩
        obtain ⟨ov, ps, ga, gb, hps⟩ := sh_get2 (x := g) hDS hl2
        refine ⟨ov, ga, ?_⟩
        rw [gb]
        have se := Same.upd (o := .tup [.int 0, .int 1]) hl2
        have s2 := sd.trans se
        generalize (upd J1 l2 (.tup [.int 0, .int 1])) = H2 at hps s2 ⊢
        have zg := ok.atp g
        refine ⟨_, rfl, e, _, _, _, rfl, rfl, s2.tup he1, (atI_nat (j := 3) rfl), ps, p, _, _, _, _, rfl, hps, s2.tup hp1, ⟨zg.2.2.1.mono (by decide), zg.2.2.2.1.mono (by decide), hO.b1.mono (by decide), hO.b2.mono (by decide)⟩, _, rfl, ?_⟩
        refine ite2 (fun c1 => ?_) (fun c1 => ?_)
        · have li : Little S way g (t, c) := ⟨w2, of_decide_eq_true c1⟩
          have hlf : H2 lf = some (.tup [.str (Str.ofString "little"), .bl true]) := by
            rcases hf with ⟨_, z⟩ | ⟨z, _⟩ | ⟨z, _⟩
            · exact s2 _ _ z
            · exact absurd li z
            · exact absurd li z
          refine ⟨_, rfl, len_ok rfl, fun lq hlq => ?_⟩
          have sq := Same.upd (o := .tup [.str (Str.ofString "little"), .bl true]) hlq
          refine ⟨_, _, IsD.tup (SqT.of (sq _ _ (hlf))) (isDsb _ _), IsD.tup (SqT.of upd_same) (isDsb _ _), lay_word true _ (by simp), lay_word true _ (by simp), by show 1 ≤ 50; decide, ?_⟩
          rw [SeqAt.eqv_refl _ (lay_word true _ (by simp))]
          refine ⟨_, rfl, len_ok rfl, fun l3 hl3 => ?_⟩
          have s3 := Same.upd (o := .tup [.bl true, .ref a]) hl3
          have sA := s1.trans (s2.trans (sq.trans s3))
          exact q l3 a S _ sA upd_same (hS.tk sA.tk) (.inl ⟨.inl li, rfl⟩)
        · exact ⟨rfl, s2, fun z => c1 (decide_eq_true z.2)⟩
      · refine iteF ⟨rfl, Same.refl _, fun z => w2 (decide_eq_true z.1)⟩
    rintro σ' H2 ⟨rfl, s2, nl⟩
    have s02 := s1.trans s2
    refine ⟨_, rfl, _, rfl, _, rfl, a, b, e, p, S, F, ss, way, many, t, c, g, k, rfl, hS.tk s02.tk, hF.tk s02.tk, s02.tup he, s02.tup hp, hO, fun lw d e2 U VL H3 s3 hd2 hlw hD hV uU uV lU lV eU eV => ?_⟩
    have s03 := s02.trans s3
    have hf3 := (hf.same s2).same s3
    refine ⟨lw, _, rfl, SqT.of hlw, rfl, _, _, rfl, _, _, rfl, rfl, ?_⟩
    obtain ⟨ro1, ro2, ro3⟩ := resD_ok hO
    rcases hf3 with ⟨z, _⟩ | ⟨_, fi, hlf⟩ | ⟨_, nf, x, r, z, tt, hlf, hx, pm, so, hr1, hz1⟩
    · exact absurd z nl
    · refine ⟨_, rfl, lf, _, _, _, rfl, rfl, SqT.of hlf, (atI_nat (j := 0) rfl), rfl, _, rfl, iteT ?_⟩
      obtain ⟨kvs, hk, rU⟩ := id hD
      have lkv : kvs.length = U.length := Paired.length rU
      refine ⟨_, rfl, d, kvs, rfl, .inl ⟨hk, fun o A1 hA1 => ?_⟩⟩
      have sx4 : SameX d H3 (upd H3 d (.frz o (.dK kvs))) := SameX.upd
      have tk4 := TK.dK (o := .frz o (.dK kvs)) hk
      have hf4 : (upd H3 d (.frz o (.dK kvs))) d = some (.frz o (.dK kvs)) := upd_same
      have nld : lf ≠ d := fun w => by rw [w, hk] at hlf; cases hlf
      have hlf4 := sx4 _ _ nld hlf
      have rU4 := Paired.imp (fun _ _ => ShV.tk tk4) rU
      have ta4 := tk4
      have hd0 : H d = none := s02.free hd2
      have s04 : Same H (upd H3 d (.frz o (.dK kvs))) := fun c o e => sx4 c o (fun w => by rw [w, hd0] at e; cases e) (s03 c o e)
      generalize (upd H3 d (.frz o (.dK kvs))) = H4 at sx4 tk4 hf4 hlf4 rU4 hA1 ta4 s04 ⊢
      refine compD (d := d) (o := o) (kvs := kvs) (fun i acc H5 => Same H4 H5 ∧ H5 A1 = some (.lst acc) ∧ acc = ((U.take i).map fun p => frB p.2.1 p.2.2).map V.int) ⟨Same.upd hA1, upd_same, rfl⟩ (fun i acc H5 _ ⟨e, _⟩ => e _ _ hf4) ?_ ?_
      · rintro i kk v acc H5 hi ⟨s5, hA5, rfl⟩
        obtain ⟨m, hm, rfl⟩ := shv_at rU4 hi
        have mem := List.mem_of_getElem? hm
        have il : i < U.length := (List.getElem?_eq_some_iff.mp hm).1
        obtain ⟨qq, eq, hq⟩ := sh_in (x := m.1) rU4 (List.mem_map_of_mem mem)
        rw [shAt_of_mem uU.nd mem] at hq
        have dg : DGet H5 d (.str m.1) (some (.ref qq)) := .inl ⟨kvs, .inr m.1, .inr ⟨o, s5 _ _ hf4⟩, rfl, eq.symm⟩
        have hq5 := s5.tup hq
        have mp := uU.pos m mem
        have mb := uU.bd m mem
        refine ⟨_, rfl, _, rfl, d, _, rfl, dg, qq, _, _, _, rfl, rfl, hq5, (atI_nat (j := 0) rfl), ?_⟩
        refine ⟨_, rfl, _, rfl, d, _, rfl, dg, qq, _, _, _, rfl, rfl, hq5, (atI_nat (j := 1) rfl), _, _, rfl, mp, mb.2.mono (by decide), fun l6 hl6 => ?_⟩
        have s6 := Same.upd (o := .tup [.int (frT m.2.1 m.2.2), .int (frB m.2.1 m.2.2)]) hl6
        refine ⟨l6, _, _, _, rfl, rfl, SqT.of upd_same, (atI_nat (j := 1) rfl), s6 _ _ hA5, ?_, ?_, upd_same, ?_⟩
        · rw [List.length_map, List.length_map, List.length_take]
          exact small1000 (by omega)
        · intro b5 o5 e5
          rw [upd_ne (fun w => by rw [w, hA1] at e5; cases e5)]
          exact s6 _ _ (s5 _ _ e5)
        · rw [List.take_add_one, hm, Option.toList_some, List.map_append, List.map_append]
          rfl
      · rintro acc H5 ⟨s5, hA5, rfl⟩
        rw [lkv, List.take_length] at hA5
        obtain ⟨m, hm, big⟩ := fine_in hO uU eU fi
        refine ⟨_, rfl, len_ok rfl, fun lq hlq => ?_⟩
        have sq := Same.upd (o := .tup [.str (Str.ofString "fine"), .bl true]) hlq
        refine ⟨_, _, IsD.tup (SqT.of (sq _ _ (s5 _ _ hlf4))) (isDsb _ _), IsD.tup (SqT.of upd_same) (isDsb _ _), lay_word true _ (by simp), lay_word true _ (by simp), by show 1 ≤ 50; decide, ?_⟩
        rw [SeqAt.eqv_refl _ (lay_word true _ (by simp))]
        refine ⟨_, rfl, iteT ?_⟩
        have sF := s5.trans sq
        refine ⟨_, rfl, A1, U.map fun p => frB p.2.1 p.2.2, rfl, SqL.of (sq _ _ hA5), ?_, fun mx hmx hall => ?_⟩
        · rw [List.length_map]
          exact List.length_pos_of_mem hm
        refine ⟨_, _, rfl, rfl, ⟨by decide, by decide, by decide⟩, _, _, rfl, rfl, ?_⟩
        have gt : FIN < mx := by
          have := hall _ (List.mem_map.mpr ⟨m, hm, rfl⟩)
          omega
        rw [fin60, show (fun (i j : Int) => V.bl (decide (j < i))) mx FIN = V.bl true from congrArg V.bl (decide_eq_true gt)]
        refine ⟨_, rfl, len_ok rfl, fun l7 hl7 => ?_⟩
        have s7 := Same.upd (o := .tup [.bl true, .ref a]) hl7
        have sA := s04.trans (sF.trans s7)
        exact q l7 a S _ sA upd_same (hS.tk sA.tk) (.inl ⟨.inr fi, rfl⟩)
    · have gS' : GS ss (toldS (resD S F way g k (t, c) many) tt) := GS.told ro1 ro2 ro3 pm so fun w => nf ((fine_iff ro1.nd pm).mp w)
      refine ⟨_, rfl, lf, _, _, _, rfl, rfl, SqT.of hlf, (atI_nat (j := 0) rfl), rfl, _, rfl, iteF ?_⟩
      refine ⟨_, rfl, lf, _, _, _, rfl, rfl, SqT.of hlf, (atI_nat (j := 1) rfl), _, _, x, _, _, _, rfl, rfl, hx, rfl, (fun _ h => h), kit_tt K, _, rfl, iteF ?_⟩
      refine ⟨_, rfl, lf, _, _, _, rfl, rfl, SqT.of hlf, (atI_nat (j := 1) rfl), x, _, rfl, .inr hx, rfl, _, rfl, iteF ?_⟩
      refine ⟨_, rfl, lf, _, _, _, rfl, rfl, SqT.of hlf, (atI_nat (j := 1) rfl), x, _, _, _, rfl, rfl, hx, (atI_nat (j := 0) rfl), r, _, ss, rfl, hr1.t, gS', h8, fun u hu => (hN _ (gS'.nm u hu)).1.lay, fun H4 s4 => ?_⟩
      refine ⟨_, rfl, iteF ?_⟩
      have hlf4 := s4 _ _ hlf
      have hx4 := s4.tup hx
      refine ⟨_, rfl, lf, _, _, _, rfl, rfl, SqT.of hlf4, (atI_nat (j := 1) rfl), x, _, _, _, rfl, rfl, hx4, (atI_nat (j := 0) rfl), _, rfl, r, d, _, U, rfl, (hr1.tk s4.tk).t, hD.same s4, lU, uU, alike_ok ro1 uU eU pm so, fun H5 s5 => ?_⟩
      refine ⟨_, rfl, iteT ?_⟩
      have s45 := s4.trans s5
      have hlf5 := s45 _ _ hlf
      have hx5 := s45.tup hx
      obtain ⟨lo1, lo2, lo3⟩ := loss_ok hO
      refine ⟨_, rfl, lf, _, _, _, rfl, rfl, SqT.of hlf5, (atI_nat (j := 1) rfl), x, _, _, _, rfl, rfl, hx5, (atI_nat (j := 1) rfl), _, rfl, z, e2, _, VL, rfl, hz1.same s45, hV.same s45, lV, uV, ?_, fun H6 s6 => ?_⟩
      · intro uu pu su
        rw [← alike_ok lo1 uV eV (.refl _) lo2 uu pu su]
        exact (loss_told hO).symm
      have s46 := s45.trans s6
      refine ⟨_, rfl, lf, _, _, _, rfl, rfl, SqT.of (s46 _ _ hlf), (atI_nat (j := 1) rfl), x, _, _, _, rfl, rfl, s46.tup hx, (atI_nat (j := 0) rfl), len_ok rfl, fun l7 hl7 => ?_⟩
      have s7 := Same.upd (o := .tup [.bl true, .ref r]) hl7
      exact q l7 r _ _ (s03.trans (s46.trans s7)) upd_same (hr1.tk (s46.trans s7).tk) (.inr ⟨⟨nl, nf⟩, tt, pm, so, rfl⟩)
noncomputable def sp_law (K : PySem.W.Frag) : Sp := fun vs H Q _ => ∃ (a : Addr) (ns : List Int), vs = [.ref a] ∧ SqL K H a (ns.map V.int) ∧ ns.length ≤ 63 ∧ ∀ H', Q (.bl true) H'
theorem sc_law : FnScope ["_law_script", "_law_names_here", "_law_due", "_law_first", "_law_shares", "_law_asked", "_law_cell_here", "_law_deed_here", "_law_good_here", "_law_after"] ["_law_script"] (defScope s_law) := ⟨rfl, rfl, rfl, by decide +kernel, rfl, by decide +kernel, by decide +kernel⟩
set_option maxHeartbeats 4000000 in
theorem ok_law {f : Addr} {fd : FuncData} (F : Fun K "law" "law" s_law f fd) (B : Bn mg) (d_law_names : Df P w K mg base 1 "_law_names" ["_law_cell_here"] (sp_law_names K)) (d_law_owned : Df P w K mg base 3 "_law_owned" ["_law_script", "_law_names_here", "_law_k"] (sp_law_owned K)) (e_shares_of : DfE P w K mg base 5 "shares_of" ["pairs"] (sp_shares_of K mg)) (d_law_cell : Df P w K mg base 1 "_law_cell" ["_law_script", "_law_k", "_law_many"] (sp_law_cell K)) (d_law_deed : Df P w K mg base 3 "_law_deed" ["_law_cell_here", "_law_shares", "_law_names_here"] (sp_law_deed K)) (d_law_step : Df P w K mg base 8 "_law_step" ["_law_shares", "_law_first", "_law_deed_here"] (sp_law_step K)) (d_law_good : Df P w K mg base 2 "_law_good" ["_law_shares"] (sp_law_good K)) : FnOk P w K mg base CX0 9 f fd ["_law_script"] (sp_law K) := by
  have d_shares_of := e_shares_of.df
  refine F.ok sc_law (fun vs H Q E h => ?_) (fun cdv A outer s H vs Q E hr h => ?_)
  · obtain ⟨a, ns, rfl, hS, hlen, q⟩ := h
    rfl
  · obtain ⟨a, ns, rfl, hS, hlen, q⟩ := h
    have hu := hr.units
    refine ⟨_, (pss_cons (ps_set (i := 1) sc_law.nd rfl (by first | exact Or.inl rfl | exact Or.inr rfl) (pe_df d_law_names hr (pa_cons (pe_df d_law_cell hr (pa_cons (pv 0) (pa_cons pe_int (pa_cons (pe_op op_pow pe_int pe_int) pa_nil)))) pa_nil)))
      (pss_cons (ps_set (i := 2) sc_law.nd rfl (by first | exact Or.inl rfl | exact Or.inr rfl) (pe_df d_law_owned hr (pa_cons (pv 0) (pa_cons (pv 1) (pa_cons pe_int pa_nil)))))
      (pss_cons (ps_set (i := 3) sc_law.nd rfl (by first | exact Or.inl rfl | exact Or.inr rfl) (pe_df d_shares_of hr (pa_cons (pe_sliceR (pe_callTy call_list_of (by rfl) B.list boot_list (pa_cons (pv 2) pa_nil)) (po_some (pe_un un_neg pe_int))) pa_nil)))
      (pss_cons (ps_if ((pw_or (pt_not (pt_val (pe_df d_law_good hr (pa_cons (pv 3) pa_nil)))) (pw_or1 (pt_cmpR (op_neD hu) (pv 3) (pv 2) (nomark _)))).pt) (pss_one (ps_ret pe_bl)) pss_nil)
      (pss_cons (ps_set (i := 4) sc_law.nd rfl (by first | exact Or.inl rfl | exact Or.inr rfl) (pv 3))
      (pss_cons (ps_set (i := 5) sc_law.nd rfl (by first | exact Or.inl rfl | exact Or.inr rfl) (pe_lst pa_nil))
      (pss_cons (ps_for PassesOwn.never rfl (pi_list (pe_slice sl_list (pv 0) (po_some pe_int) (po_some pe_int))) (pg_name (i := 6) sc_law.nd rfl (by first | exact Or.inl rfl | exact Or.inr rfl)) (pss_cons (ps_set (i := 7) sc_law.nd rfl (by first | exact Or.inl rfl | exact Or.inr rfl) (pe_df d_law_deed hr (pa_cons (pv 6) (pa_cons (pv 4) (pa_cons (pv 1) pa_nil)))))
      (pss_cons (ps_asg (pe_df d_law_step hr (pa_cons (pv 4) (pa_cons (pv 3) (pa_cons (pv 7) pa_nil)))) (pg_tup rfl (pgs_cons (pg_name (i := 8) sc_law.nd rfl (by first | exact Or.inl rfl | exact Or.inr rfl)) (pgs_cons (pg_name (i := 9) sc_law.nd rfl (by first | exact Or.inl rfl | exact Or.inr rfl)) pgs_nil))))
      (pss_cons (ps_if (pt_not (pt_val (pv 8))) (pss_one (ps_ret pe_bl)) pss_nil)
      (pss_cons (ps_expr (pe_bm PySem.F.plainAttrs_list PySem.F.slot_list_append PySem.F.type_list_append mt_append (pv 5) (pa_cons (pe_tup (pa_cons (pv 4) (pa_cons (pv 7) (pa_cons (pv 9) pa_nil)))) pa_nil)))
      (pss_one (ps_set (i := 4) sc_law.nd rfl (by first | exact Or.inl rfl | exact Or.inr rfl) (pv 9))))))))
      (pss_cons (ps_for PassesOwn.never rfl (pi_list (pe_slice3 (pv 5) (po_some pe_int) (po_some pe_int) (po_some pe_int))) (pg_tup rfl (pgs_cons (pg_name (i := 4) sc_law.nd rfl (by first | exact Or.inl rfl | exact Or.inr rfl)) (pgs_cons (pg_name (i := 7) sc_law.nd rfl (by first | exact Or.inl rfl | exact Or.inr rfl)) (pgs_cons (pg_name (i := 9) sc_law.nd rfl (by first | exact Or.inl rfl | exact Or.inr rfl)) pgs_nil)))) (pss_one (ps_if (pt_cmpR (op_neD hu) (pe_df d_law_step hr (pa_cons (pv 4) (pa_cons (pv 3) (pa_cons (pv 7) pa_nil)))) (pe_tup (pa_cons pe_bl (pa_cons (pv 9) pa_nil))) (nomark _)) (pss_one (ps_ret pe_bl)) pss_nil)))
      (pss_one (ps_ret pe_bl)))))))))), ?_⟩
    refine ⟨_, rfl, _, _, rfl, rfl, ⟨by decide, by decide, by decide⟩, a, ns, 0, _, rfl, hS, by decide, (by show (0 : Int) < _; decide), _, rfl, fun n ss hn h8 hs => ?_⟩
    have s0 := Same.upd (o := .lst (ss.map V.str)) hn
    have hN0 : SqL K (upd H n (.lst (ss.map V.str))) n (ss.map V.str) := SqL.of upd_same
    generalize (upd H n (.lst (ss.map V.str))) = H0 at s0 hN0 ⊢
    have hS0 := s0.seq hS
    refine ⟨_, rfl, _, rfl, a, n, ns, ss, 1, rfl, hS0, hN0, h8, hs, by decide, fun ls F H1 s1 hF1 hOw hnm => ?_⟩
    have gF := hOw.gs hnm
    obtain ⟨hok, hz, hB, hso, hnz, hnm'⟩ := hOw.data
    obtain ⟨D, hD0, bD, hpf, hfin⟩ := hOw.pf
    have hS1 := s1.seq hS0
    have hN1 := s1.seq hN0
    have lay : ∀ {T : Sh}, GS ss T → ∀ p ∈ T, PyData.canLay0 (.str p.1) = true := fun h p hp => (hs _ (h.nm p hp)).1.lay
    obtain ⟨vF, hvF, rF⟩ := hF1.t
    have lvF := ShT.len (a := ls) rF
    refine ⟨_, rfl, ls, vF, rfl, .inr hvF, fun l2 hl2 => ?_⟩
    have s2 := Same.upd (o := .lst vF) hl2
    refine ⟨_, rfl, _, rfl, l2, vF, rfl, rfl, SqL.of upd_same, fun l3 hl3 => ?_⟩
    have s3 := Same.upd (o := .lst vF.reverse) hl3
    have h3 : SqL K (upd (upd H1 l2 (.lst vF)) l3 (.lst vF.reverse)) l3 vF.reverse := SqL.of upd_same
    have s23 := s2.trans s3
    generalize (upd (upd H1 l2 (.lst vF)) l3 (.lst vF.reverse)) = H3 at s3 h3 s23 ⊢
    have pr3 : Paired (PrT K H3) vF.reverse (F.reverse.map prE) := by
      have key : ∀ {xs : List V} {T : Sh}, Paired (ShE K H1) xs T → (∀ p ∈ T, IsNm p.1) → Paired (PrT K H3) xs (T.map prE) := by
        intro xs T pr
        induction pr with
        | nil => intro _; exact .nil
        | cons a b ih =>
          intro hn
          obtain ⟨r, u, rfl, h1, h2⟩ := a
          exact .cons ⟨r, _, u, rfl, s23.tup h1, ⟨.str _, ⟨_, .str _⟩, (hn _ (List.mem_cons_self ..)).thg⟩, s23.tup h2⟩ (ih fun p hp => hn p (List.mem_cons_of_mem _ hp))
      exact key (Paired.rev rF) fun p hp => hnm' p (List.mem_reverse.mp hp)
    have allok : ∀ p ∈ F.reverse.map prE, okP p := fun p hp => by
      obtain ⟨u, hu, rfl⟩ := List.mem_map.mp hp
      have hu := List.mem_reverse.mp hu
      exact ⟨(hnm' u hu).nm, (gF.ok u hu).2⟩
    refine ⟨l3, _, _, D, rfl, h3, pr3, fun p hp => ?_, ⟨hD0, bD.mono (by decide)⟩, by rw [List.length_map, List.length_reverse]; omega, fun z => ?_, fun _ _ _ tt pm so => ⟨fun nf lf H4 s4 hF4 => ?_, fun fi => ?_⟩⟩
    · obtain ⟨u, hu, rfl⟩ := List.mem_map.mp hp
      have hu := List.mem_reverse.mp hu
      have pf := hpf u hu
      have bb := hB u hu
      exact ⟨pf.ok.pos, bb.1.mono (by decide), bb.2.mono (by decide), fun _ => ⟨pf.ok, pf.nn, by have := pf.le; have := pf.nn; show u.2.1 ≤ 2 * u.2.2; omega, pf.dv⟩⟩
    · rcases z with ⟨p, hp, w⟩ | w
      · exact absurd (allok p hp) w
      · exact absurd (first_sum gF) w
    rotate_left
    · rw [first_told gF pm so] at fi
      obtain ⟨p, hp, w⟩ := fi
      exact absurd w (gF.fin p hp)
    rw [first_told gF pm so] at hF4
    have s14 := s23.trans s4
    refine ⟨_, rfl, lf, F, ss, rfl, hF4.t, gF, h8, lay gF, fun H5 s5 => ?_⟩
    refine ⟨_, rfl, iteF ?_⟩
    have s15 := s14.trans s5
    refine ⟨_, rfl, _, rfl, _, _, (hF4.tk s5.tk).t.isD, (hF1.tk s15.tk).t.isD, lay_sh (lay gF), lay_sh (lay gF), ?_, _, rfl, ?_⟩
    · have := dep_shs F
      show PyData.depthAll (F.map shE) + 1 ≤ 50
      omega
    rw [SeqAt.eqv_refl _ (lay_sh (lay gF))]
    refine iteF ?_
    refine ⟨_, rfl, ?_⟩
    refine ⟨len_ok rfl, fun l5 hl5 => ?_⟩
    have hF50 := hF4.tk s5.tk
    have hN50 := s15.seq hN1
    have s6 := Same.upd (o := .lst []) hl5
    have h6 : (upd H5 l5 (.lst [])) l5 = some (.lst []) := upd_same
    have hF6 := hF4.tk (s5.trans s6).tk
    have hN6 := (s15.trans s6).seq hN1
    have hS6 := (s15.trans s6).seq hS1
    generalize (upd H5 l5 (.lst [])) = H6 at s6 h6 hF6 hN6 hS6 ⊢
    clear hF4 hF1 pr3 rF hvF h3 hS1 hN1 hS0 hN0
    refine ⟨_, rfl, _, rfl, _, rfl, a, _, rfl, hS6, fun lc hlc => ?_⟩
    obtain ⟨cs, ec, lcs⟩ : ∃ cs : List Int, cutV (ns.map V.int) (some 10) (some 42) = cs.map V.int ∧ cs.length ≤ 32 := by
      refine ⟨(ns.drop (min 10 ns.length)).take (min 42 ns.length - min 10 ns.length), ?_, ?_⟩
      · unfold cutV
        rw [show (some (10 : Int)) = some ((10 : Nat) : Int) from rfl, show (some (42 : Int)) = some ((42 : Nat) : Int) from rfl, HT.sIx_nat, HT.sIx_nat, List.length_map, List.map_take, List.map_drop]
      · rw [List.length_take]
        omega
    rw [ec]
    have s7 := Same.upd (o := .lst (cs.map V.int)) hlc
    have hlc7 : (upd H6 lc (.lst (cs.map V.int))) lc = some (.lst (cs.map V.int)) := upd_same
    have n5 : lc ≠ l5 := fun z => by rw [z, h6] at hlc; cases hlc
    have h57 := s7 _ _ h6
    have s67 := s6.trans s7
    generalize (upd H6 lc (.lst (cs.map V.int))) = H7 at s7 hlc7 h57 s67 ⊢
    have hF5 : ShF K H5 lf F := hF50
    have hN5 : SqL K H5 n (ss.map V.str) := hN50
    refine ⟨lc, rfl, ⟨_, SqL.of hlc7⟩, for_list (K := K) (a := lc) (xs := cs.map V.int) (fun i σ HH => ∃ (o6 o7 o8 o9 : Option V) (sh : Addr) (S : Sh) (acc : List V), σ = [some (.ref a), some (.ref n), some (.ref ls), some (.ref lf), some (.ref sh), some (.ref l5), o6, o7, o8, o9] ∧ Same H5 HH ∧ HH lc = some (.lst (cs.map V.int)) ∧ HH l5 = some (.lst acc) ∧ acc.length = i ∧ ShF K HH sh S ∧ GS ss S ∧ ∀ v ∈ acc, AskE K HH ss F v) ⟨none, none, none, none, lf, F, [], rfl, s67, hlc7, h57, rfl, hF5.tk s67.tk, gF, fun _ z => nomatch z⟩ (fun i σ HH _ ⟨_, _, _, _, _, _, _, _, _, e, _⟩ => SqL.of e) ?_ ?_⟩
    · rintro i y σ HH hi ⟨o6, o7, o8, o9, sh, S, acc, rfl, sH, hlcH, hl5H, lacc, hsh, gS, hask⟩
      obtain ⟨cv, hcv, rfl⟩ : ∃ cv, cs[i]? = some cv ∧ V.int cv = y := by
        rw [List.getElem?_map] at hi
        cases e : cs[i]? with
        | none => rw [e] at hi; cases hi
        | some x => rw [e] at hi; exact ⟨x, rfl, Option.some.inj hi⟩
      have il : i < cs.length := (List.getElem?_eq_some_iff.mp hcv).1
      refine ⟨_, rfl, _, rfl, _, rfl, cv, sh, n, S, ss, rfl, hsh, gS.nd, fun p hp => ⟨(gS.ok p hp).1, (gS.ok p hp).2, (gS.bd hp).1.mono (by decide), (gS.bd hp).2.mono (by decide)⟩, sH.seq hN5, h8, fun de y2 p H8 way many t c g k s8 hde hpp ey good hway hmany hgk => ?_⟩
      have hO : DeedOk ss S F way g k (t, c) many := ⟨h8, gS, gF, hgk.1, hgk.2, good.2.1, good.1, good.2.2.1, good.2.2.2, hway.1, hway.2, hmany.1, hmany.2⟩
      refine ⟨_, rfl, _, rfl, _, rfl, sh, lf, de, p, S, F, ss, way, many, t, c, g, k, rfl, hsh.tk s8.tk, hF5.tk (sH.trans s8).tk, SqT.of hde, hpp, hO, hs, fun l9 af S' H9 s9 hl9 haf st => ?_⟩
      have s89 := s8.trans s9
      refine ⟨l9, _, rfl, SqT.of hl9, rfl, _, _, rfl, _, _, rfl, rfl, ?_⟩
      refine ⟨_, rfl, _, rfl, iteF ?_⟩
      have hl59 := s89 _ _ hl5H
      refine ⟨_, rfl, .inl ⟨rfl, _, SqL.of hl59⟩, _, rfl, _, rfl, _, rfl, len_ok rfl, fun rr hrr => ?_⟩
      have sr := Same.upd (o := .tup [.ref sh, .ref de, .ref af]) hrr
      have hl5r := sr _ _ hl59
      have hrr' : (upd H9 rr (.tup [.ref sh, .ref de, .ref af])) rr = some (.tup [.ref sh, .ref de, .ref af]) := upd_same
      have s8r := s89.trans sr
      have askN : AskE K (upd H9 rr (.tup [.ref sh, .ref de, .ref af])) ss F (.ref rr) := ⟨rr, sh, de, af, p, S, S', way, many, t, c, g, k, rfl, SqT.of hrr', hsh.tk s8r.tk, SqT.of (sr _ _ (s9 _ _ hde)), (s9.trans sr).tup hpp, hO, haf.tk sr.tk, st⟩
      have haf' := haf.tk sr.tk
      generalize (upd H9 rr (.tup [.ref sh, .ref de, .ref af])) = HR at sr hl5r hrr' s8r askN haf' ⊢
      refine ⟨l5, _, _, rfl, rfl, hl5r, ?_, ?_⟩
      · have sl : (1000 : Nat) ≤ sizeLine := by decide
        omega
      have tk := TK.lst (o := .lst (acc ++ [.ref rr])) hl5r
      refine ⟨_, rfl, _, _, _, _, af, S', acc ++ [.ref rr], rfl, fun b o e => ?_, ?_, upd_same, by rw [List.length_append, lacc]; rfl, haf'.tk tk, st.good hO, fun v hv => ?_⟩
      · rw [upd_ne (fun z => by rw [z, hl5] at e; cases e)]
        exact s8r _ _ (sH _ _ e)
      · rw [upd_ne n5]
        exact s8r _ _ hlcH
      · rcases List.mem_append.mp hv with z | z
        · exact ((hask v z).tk s8r.tk).tk tk
        · rw [List.mem_singleton.mp z]
          exact askN.tk tk
    · rintro σ HH ⟨o6, o7, o8, o9, sh, S, acc, rfl, sH, hlcH, hl5H, lacc, hsh, gS, hask⟩
      refine ⟨_, rfl, _, rfl, _, rfl, _, rfl, l5, acc, rfl, by decide, SqL.of hl5H, fun ly ys hly sub len => ?_⟩
      have sy := Same.upd (o := .lst ys) hly
      have hly' : (upd HH ly (.lst ys)) ly = some (.lst ys) := upd_same
      have s5y := sH.trans sy
      have hask' : ∀ v ∈ acc, AskE K (upd HH ly (.lst ys)) ss F v := fun v hv => (hask v hv).tk sy.tk
      generalize (upd HH ly (.lst ys)) = HY at sy hly' s5y hask' ⊢
      refine ⟨ly, rfl, ⟨_, SqL.of hly'⟩, for_list (K := K) (a := ly) (xs := ys) (fun i σ HZ => ∃ (o4 o6 o7 o8 o9 : Option V), σ = [some (.ref a), some (.ref n), some (.ref ls), some (.ref lf), o4, some (.ref l5), o6, o7, o8, o9] ∧ Same HY HZ) ⟨_, _, _, _, _, rfl, Same.refl _⟩ (fun i σ HZ _ ⟨_, _, _, _, _, _, e⟩ => SqL.of (e _ _ hly')) ?_ ?_⟩
      · rintro i y σ HZ hi ⟨o4, o6, o7, o8, o9, rfl, sZ⟩
        obtain ⟨r, sh, de, af, p, S, S', way, many, t, c, g, k, rfl, h1, h2, h3, h4, hO, h5, st⟩ := (hask' y (sub y (List.mem_of_getElem? hi))).tk sZ.tk
        refine ⟨r, _, rfl, h1, rfl, _, _, rfl, _, _, rfl, _, _, rfl, rfl, ?_⟩
        refine ⟨_, rfl, _, rfl, _, rfl, sh, lf, de, p, S, F, ss, way, many, t, c, g, k, rfl, h2, hF5.tk (s5y.trans sZ).tk, h3, h4, hO, hs, fun l9 r2 S2 H9 s9 hl9 hr2 st2 => ?_⟩
        obtain rfl := StepR.uniq st st2
        have lay2 := lay (st.good hO)
        refine ⟨_, rfl, len_ok rfl, fun lt hlt => ?_⟩
        have sT := Same.upd (o := .tup [.bl true, .ref af]) hlt
        refine ⟨_, _, IsD.tup (SqT.of (sT _ _ hl9)) (.cons (.bl _) (.cons (hr2.tk sT.tk).t.isD .nil)), IsD.tup (SqT.of upd_same) (.cons (.bl _) (.cons (h5.tk (s9.trans sT).tk).t.isD .nil)), lay_bsh lay2, lay_bsh lay2, ?_, _, rfl, ?_⟩
        · have := dep_shs S'
          show max 0 (max (PyData.depthAll (S'.map shE) + 1) 0) + 1 ≤ 50
          omega
        rw [SeqAt.eqv_refl _ (lay_bsh lay2)]
        refine iteF ?_
        exact ⟨_, _, _, _, _, rfl, sZ.trans (s9.trans sT)⟩
      · rintro σ HZ ⟨o4, o6, o7, o8, o9, rfl, sZ⟩
        exact q _
end
end My
namespace PySem.W.Fast
theorem tw15422122964341441842 : True := trivial
theorem tw14302069421577130544 : True := trivial
theorem tw17395988501735432823 : True := trivial
theorem tw9085240622646105295 : True := trivial
theorem tw7959872332798306805 : True := trivial
theorem tw15491586549649248867 : True := trivial
theorem tw13868715634331170769 : True := trivial
theorem tw12447223928831830795 : True := trivial
theorem tw12512203627371088712 : True := trivial
theorem tw11237313660400963521 : True := trivial
theorem tw16428494454713826409 : True := trivial
theorem tw14429728824523360892 : True := trivial
theorem tw6788622091209781902 : True := trivial
theorem tw13560006412010874546 : True := trivial
theorem tw15703592565954917980 : True := trivial
theorem tw17440667111338412967 : True := trivial
theorem tw7338037713053402231 : True := trivial
theorem tw12872107844692219608 : True := trivial
theorem tw7406909138309938464 : True := trivial
theorem tw14536921414846577012 : True := trivial
theorem tw16011162397917241605 : True := trivial
theorem tw8376986509849443887 : True := trivial
theorem tw2129466662981955492 : True := trivial
theorem tw8377044233398424470 : True := trivial
theorem tw74541863736898598 : True := trivial
theorem tw9231123226367692164 : True := trivial
theorem tw8287459573291169247 : True := trivial
theorem tw6001926576588121360 : True := trivial
theorem tw2819121522181150554 : True := trivial
theorem tw14356341427899927898 : True := trivial
theorem tw6328597913329908373 : True := trivial
theorem tw2252219352733774733 : True := trivial
theorem tw13675532218231130088 : True := trivial
theorem tw3140618628598432860 : True := trivial
theorem tw5419942306474652717 : True := trivial
theorem tw9581184769490042829 : True := trivial
theorem tw2982533714156288423 : True := trivial
theorem tw16413447274088353755 : True := trivial
theorem tw13662679898915442049 : True := trivial
theorem tw8815353662462284321 : True := trivial
theorem tw7176011819207629841 : True := trivial
theorem tw4953504739562475789 : True := trivial
theorem tw419921494553509646 : True := trivial
theorem tw15475861076274703559 : True := trivial
theorem tw16353114440807749 : True := trivial
theorem tw8985461374288276291 : True := trivial
theorem tw5538180170435991800 : True := trivial
theorem tw12284027261967688417 : True := trivial
theorem tw6210647889482563670 : True := trivial
theorem tw5423573972646385854 : True := trivial
theorem tw12399588244393084476 : True := trivial
theorem tw4127391961177962335 : True := trivial
theorem tw13530906711639067099 : True := trivial
theorem tw4496664051988158111 : True := trivial
theorem tw1291639855678774398 : True := trivial
theorem tw10804603127503611511 : True := trivial
theorem tw14107151214900016129 : True := trivial
theorem tw1620364683009494400 : True := trivial
theorem tw8459940140603076225 : True := trivial
theorem tw18321258078881933829 : True := trivial
theorem tw2007671984967187256 : True := trivial
theorem tw2380073449738846550 : True := trivial
theorem tw10515425486600829418 : True := trivial
theorem tw2896149190071834396 : True := trivial
theorem tw3126110754878133699 : True := trivial
theorem tw1171036574117141625 : True := trivial
theorem tw1465913594043664117 : True := trivial
theorem tw3108384426886095953 : True := trivial
theorem tw4576819402756652997 : True := trivial
theorem tw4661409676572845778 : True := trivial
theorem tw11695245962188317915 : True := trivial
theorem tw10808192945501207131 : True := trivial
theorem tw12989499023098462321 : True := trivial
theorem tw435895146591043173 : True := trivial
theorem tw4668771850381096550 : True := trivial
theorem tw14268825340347400295 : True := trivial
theorem tw6376790793895511499 : True := trivial
theorem tw5811492723739365931 : True := trivial
theorem tw1598812822296494311 : True := trivial
theorem tw11831273138674704921 : True := trivial
theorem tw7037604437004109803 : True := trivial
theorem tw7400782763356914875 : True := trivial
theorem tw15068869535898299754 : True := trivial
theorem tw14781737436656947465 : True := trivial
theorem tw14509754760246521409 : True := trivial
theorem tw17535382312006305473 : True := trivial
theorem tw744769447325207579 : True := trivial
theorem tw7895575468567319685 : True := trivial
theorem tw16079135422703354458 : True := trivial
theorem tw3082893964805663709 : True := trivial
theorem tw2073646809059836254 : True := trivial
theorem tw288822603963384960 : True := trivial
theorem tw15679658656913068957 : True := trivial
theorem tw7327381846622340141 : True := trivial
theorem tw15026836110948542836 : True := trivial
theorem tw6891810115476152821 : True := trivial
theorem tw12120649270401024717 : True := trivial
theorem tw10798363856403474271 : True := trivial
theorem tw2550555750714975940 : True := trivial
theorem tw14485465149770136522 : True := trivial
theorem tw8788479351705110022 : True := trivial
theorem tw2355040550619642274 : True := trivial
theorem tw12993640440623000630 : True := trivial
theorem tw13917049168160179201 : True := trivial
theorem tw1791879292453977526 : True := trivial
theorem tw10846362380609336894 : True := trivial
theorem tw14847999908612668190 : True := trivial
theorem tw17068696189361673665 : True := trivial
theorem tw351994004836711681 : True := trivial
theorem tw395044114884441694 : True := trivial
theorem tw10039313785543108924 : True := trivial
theorem tw16102846250955631467 : True := trivial
theorem tw8929072173103395315 : True := trivial
theorem tw4147987623423667486 : True := trivial
theorem tw16895260587156258179 : True := trivial
theorem tw11055058031926381314 : True := trivial
theorem tw1913753976561137687 : True := trivial
theorem tw5273286404093186599 : True := trivial
theorem tw15711814160568289713 : True := trivial
theorem tw16323605332900211690 : True := trivial
theorem tw16346718368042210331 : True := trivial
theorem tw6510115166216565840 : True := trivial
theorem tw1833791964884903650 : True := trivial
theorem tw9935731502961479698 : True := trivial
theorem tw1164971152532430178 : True := trivial
theorem tw12921002866479610512 : True := trivial
theorem tw321372059488814982 : True := trivial
theorem tw782772532568847389 : True := trivial
theorem tw11453190763744493780 : True := trivial
theorem tw8277790275410810806 : True := trivial
theorem tw10727866457941086069 : True := trivial
theorem tw9887750064444735021 : True := trivial
theorem tw18423717606648053916 : True := trivial
theorem tw6475360929773953026 : True := trivial
theorem tw12842442194521359138 : True := trivial
theorem tw9340081054257764869 : True := trivial
theorem tw11920697319982478939 : True := trivial
theorem tw1948580599685358948 : True := trivial
theorem tw10373251499991112560 : True := trivial
theorem tw14459552622101729050 : True := trivial
theorem tw12241773656981795517 : True := trivial
theorem tw4591942097674644187 : True := trivial
theorem tw13877697102467480271 : True := trivial
theorem tw1037934698494929105 : True := trivial
theorem tw14158794443240360206 : True := trivial
theorem tw13573175187485573601 : True := trivial
theorem tw948680580737760916 : True := trivial
theorem tw10225475513978245668 : True := trivial
theorem tw3098725968518372741 : True := trivial
theorem tw16491343944349305169 : True := trivial
end PySem.W.Fast
open PySem PySem.W PyProof.Rows
set_option maxRecDepth 100000 in
set_option maxHeartbeats 0 in
theorem PySem.Challenge.cw_landroll_k27_whole_row_of_deeds_holds : PySem.Challenge.rw_landroll_k27_whole_row_of_deeds.Holds := by
  w_on; o_law; k_head; (case hw => w_witness2)
  k_fill
  refine L2.walk_ofK (l := PySem.Challenge.rw_landroll_k27_whole_row_of_deeds) (n := 63) (k := 9) (x := "_law_script") (CX := L2.CX0) (sp := My.sp_law) rfl (by decide) rfl ⟨rfl, by decide, by decide⟩ (fun w h Y => PySem.W.kIn_of Y) ?F ?S ?C
  case F =>
    intro w mg fa h KX G hmg
    have B : L2.Bn mg := by
      refine' L2.bn_mk KX G ?z0 ?z1 ?z2 ?z3 ?z4 ?z5 ?z6 ?z7 ?z8 ?z9 ?z10 ?z11 ?z12 ?z13
      (case z0 => k_is); (case z1 => k_is); (case z2 => k_is); (case z3 => k_is); (case z4 => k_is); (case z5 => k_is); (case z6 => k_is); (case z7 => k_is); (case z8 => k_is); (case z9 => k_is); (case z10 => k_is); (case z11 => k_is); (case z12 => k_is); (case z13 => k_is)
    have t_is_number : L2.Tx (L2.KOf KX) mg "is_number" My.s_is_number ["thing"] := by
      dsimp only [L2.KOf]
      refine' L2.tx_mk KX G ?a ?l ?c ?k (fun _ _ _ _ _ _ => L2.len1 fun _ => rfl)
      (case a => k_is); (case l => k_is); (case c => k_is); (case k => k_is)
    have t_common_divisor : L2.Tx (L2.KOf KX) mg "common_divisor" My.s_common_divisor ["one", "other"] := by
      dsimp only [L2.KOf]
      refine' L2.tx_mk KX G ?a ?l ?c ?k (fun _ _ _ _ _ _ => L2.len2 fun _ _ => rfl)
      (case a => k_is); (case l => k_is); (case c => k_is); (case k => k_is)
    have t_under : L2.Tx (L2.KOf KX) mg "under" My.s_under ["one", "other"] := by
      dsimp only [L2.KOf]
      refine' L2.tx_mk KX G ?a ?l ?c ?k (fun _ _ _ _ _ _ => L2.len2 fun _ _ => rfl)
      (case a => k_is); (case l => k_is); (case c => k_is); (case k => k_is)
    have t_is_name : L2.Tx (L2.KOf KX) mg "is_name" My.s_is_name ["thing"] := by
      dsimp only [L2.KOf]
      refine' L2.tx_mk KX G ?a ?l ?c ?k (fun _ _ _ _ _ _ => L2.len1 fun _ => rfl)
      (case a => k_is); (case l => k_is); (case c => k_is); (case k => k_is)
    have t_told_of : L2.Tx (L2.KOf KX) mg "told_of" My.s_told_of ["held"] := by
      dsimp only [L2.KOf]
      refine' L2.tx_mk KX G ?a ?l ?c ?k (fun _ _ _ _ _ _ => L2.len1 fun _ => rfl)
      (case a => k_is); (case l => k_is); (case c => k_is); (case k => k_is)
    have t_share_of : L2.Tx (L2.KOf KX) mg "share_of" My.s_share_of ["shares", "name"] := by
      dsimp only [L2.KOf]
      refine' L2.tx_mk KX G ?a ?l ?c ?k (fun _ _ _ _ _ _ => L2.len2 fun _ _ => rfl)
      (case a => k_is); (case l => k_is); (case c => k_is); (case k => k_is)
    have t_law_cell : L2.Tx (L2.KOf KX) mg "_law_cell" My.s_law_cell ["_law_script", "_law_k", "_law_many"] := by
      dsimp only [L2.KOf]
      refine' L2.tx_mk KX G ?a ?l ?c ?k (fun _ _ _ _ _ _ => L2.len3 fun _ _ _ => rfl)
      (case a => k_is); (case l => k_is); (case c => k_is); (case k => k_is)
    have t_law_whole : L2.Tx (L2.KOf KX) mg "_law_whole" My.s_law_whole ["_law_found"] := by
      dsimp only [L2.KOf]
      refine' L2.tx_mk KX G ?a ?l ?c ?k (fun _ _ _ _ _ _ => L2.len1 fun _ => rfl)
      (case a => k_is); (case l => k_is); (case c => k_is); (case k => k_is)
    have t_law_divisor : L2.Tx (L2.KOf KX) mg "_law_divisor" My.s_law_divisor ["_law_one", "_law_other"] := by
      dsimp only [L2.KOf]
      refine' L2.tx_mk KX G ?a ?l ?c ?k (fun _ _ _ _ _ _ => L2.len2 fun _ _ => rfl)
      (case a => k_is); (case l => k_is); (case c => k_is); (case k => k_is)
    have t_law_names : L2.Tx (L2.KOf KX) mg "_law_names" My.s_law_names ["_law_cell_here"] := by
      dsimp only [L2.KOf]
      refine' L2.tx_mk KX G ?a ?l ?c ?k (fun _ _ _ _ _ _ => L2.len1 fun _ => rfl)
      (case a => k_is); (case l => k_is); (case c => k_is); (case k => k_is)
    have t_law_plus : L2.Tx (L2.KOf KX) mg "_law_plus" My.s_law_plus ["_law_one", "_law_other", "_law_sign"] := by
      dsimp only [L2.KOf]
      refine' L2.tx_mk KX G ?a ?l ?c ?k (fun _ _ _ _ _ _ => L2.len3 fun _ _ _ => rfl)
      (case a => k_is); (case l => k_is); (case c => k_is); (case k => k_is)
    have t_law_under : L2.Tx (L2.KOf KX) mg "_law_under" My.s_law_under ["_law_one", "_law_other"] := by
      dsimp only [L2.KOf]
      refine' L2.tx_mk KX G ?a ?l ?c ?k (fun _ _ _ _ _ _ => L2.len2 fun _ _ => rfl)
      (case a => k_is); (case l => k_is); (case c => k_is); (case k => k_is)
    have t_law_alike : L2.Tx (L2.KOf KX) mg "_law_alike" My.s_law_alike ["_law_pairs", "_law_due"] := by
      dsimp only [L2.KOf]
      refine' L2.tx_mk KX G ?a ?l ?c ?k (fun _ _ _ _ _ _ => L2.len2 fun _ _ => rfl)
      (case a => k_is); (case l => k_is); (case c => k_is); (case k => k_is)
    have t_in_lowest_terms : L2.Tx (L2.KOf KX) mg "in_lowest_terms" My.s_in_lowest_terms ["top", "bottom"] := by
      dsimp only [L2.KOf]
      refine' L2.tx_mk KX G ?a ?l ?c ?k (fun _ _ _ _ _ _ => L2.len2 fun _ _ => rfl)
      (case a => k_is); (case l => k_is); (case c => k_is); (case k => k_is)
    have t_lesser : L2.Tx (L2.KOf KX) mg "lesser" My.s_lesser ["one", "other"] := by
      dsimp only [L2.KOf]
      refine' L2.tx_mk KX G ?a ?l ?c ?k (fun _ _ _ _ _ _ => L2.len2 fun _ _ => rfl)
      (case a => k_is); (case l => k_is); (case c => k_is); (case k => k_is)
    have t_law_fraction : L2.Tx (L2.KOf KX) mg "_law_fraction" My.s_law_fraction ["_law_top", "_law_bottom"] := by
      dsimp only [L2.KOf]
      refine' L2.tx_mk KX G ?a ?l ?c ?k (fun _ _ _ _ _ _ => L2.len2 fun _ _ => rfl)
      (case a => k_is); (case l => k_is); (case c => k_is); (case k => k_is)
    have t_law_good : L2.Tx (L2.KOf KX) mg "_law_good" My.s_law_good ["_law_shares"] := by
      dsimp only [L2.KOf]
      refine' L2.tx_mk KX G ?a ?l ?c ?k (fun _ _ _ _ _ _ => L2.len1 fun _ => rfl)
      (case a => k_is); (case l => k_is); (case c => k_is); (case k => k_is)
    have t_law_would : L2.Tx (L2.KOf KX) mg "_law_would" My.s_law_would ["_law_shares", "_law_first", "_law_deed_here"] := by
      dsimp only [L2.KOf]
      refine' L2.tx_mk KX G ?a ?l ?c ?k (fun _ _ _ _ _ _ => L2.len3 fun _ _ _ => rfl)
      (case a => k_is); (case l => k_is); (case c => k_is); (case k => k_is)
    have t_fraction : L2.Tx (L2.KOf KX) mg "fraction" My.s_fraction ["top", "bottom"] := by
      dsimp only [L2.KOf]
      refine' L2.tx_mk KX G ?a ?l ?c ?k (fun _ _ _ _ _ _ => L2.len2 fun _ _ => rfl)
      (case a => k_is); (case l => k_is); (case c => k_is); (case k => k_is)
    have t_plus : L2.Tx (L2.KOf KX) mg "plus" My.s_plus ["one", "other"] := by
      dsimp only [L2.KOf]
      refine' L2.tx_mk KX G ?a ?l ?c ?k (fun _ _ _ _ _ _ => L2.len2 fun _ _ => rfl)
      (case a => k_is); (case l => k_is); (case c => k_is); (case k => k_is)
    have t_minus : L2.Tx (L2.KOf KX) mg "minus" My.s_minus ["one", "other"] := by
      dsimp only [L2.KOf]
      refine' L2.tx_mk KX G ?a ?l ?c ?k (fun _ _ _ _ _ _ => L2.len2 fun _ _ => rfl)
      (case a => k_is); (case l => k_is); (case c => k_is); (case k => k_is)
    have t_product : L2.Tx (L2.KOf KX) mg "product" My.s_product ["one", "other"] := by
      dsimp only [L2.KOf]
      refine' L2.tx_mk KX G ?a ?l ?c ?k (fun _ _ _ _ _ _ => L2.len2 fun _ _ => rfl)
      (case a => k_is); (case l => k_is); (case c => k_is); (case k => k_is)
    have t_quotient : L2.Tx (L2.KOf KX) mg "quotient" My.s_quotient ["one", "other"] := by
      dsimp only [L2.KOf]
      refine' L2.tx_mk KX G ?a ?l ?c ?k (fun _ _ _ _ _ _ => L2.len2 fun _ _ => rfl)
      (case a => k_is); (case l => k_is); (case c => k_is); (case k => k_is)
    have t_law_owned : L2.Tx (L2.KOf KX) mg "_law_owned" My.s_law_owned ["_law_script", "_law_names_here", "_law_k"] := by
      dsimp only [L2.KOf]
      refine' L2.tx_mk KX G ?a ?l ?c ?k (fun _ _ _ _ _ _ => L2.len3 fun _ _ _ => rfl)
      (case a => k_is); (case l => k_is); (case c => k_is); (case k => k_is)
    have t_law_deed : L2.Tx (L2.KOf KX) mg "_law_deed" My.s_law_deed ["_law_cell_here", "_law_shares", "_law_names_here"] := by
      dsimp only [L2.KOf]
      refine' L2.tx_mk KX G ?a ?l ?c ?k (fun _ _ _ _ _ _ => L2.len3 fun _ _ _ => rfl)
      (case a => k_is); (case l => k_is); (case c => k_is); (case k => k_is)
    have t_sum_of : L2.Tx (L2.KOf KX) mg "sum_of" My.s_sum_of ["some"] := by
      dsimp only [L2.KOf]
      refine' L2.tx_mk KX G ?a ?l ?c ?k (fun _ _ _ _ _ _ => L2.len1 fun _ => rfl)
      (case a => k_is); (case l => k_is); (case c => k_is); (case k => k_is)
    have t_raise_share : L2.Tx (L2.KOf KX) mg "raise_share" My.s_raise_share ["held", "name", "part"] := by
      dsimp only [L2.KOf]
      refine' L2.tx_mk KX G ?a ?l ?c ?k (fun _ _ _ _ _ _ => L2.len3 fun _ _ _ => rfl)
      (case a => k_is); (case l => k_is); (case c => k_is); (case k => k_is)
    have t_lower_share : L2.Tx (L2.KOf KX) mg "lower_share" My.s_lower_share ["held", "name", "part"] := by
      dsimp only [L2.KOf]
      refine' L2.tx_mk KX G ?a ?l ?c ?k (fun _ _ _ _ _ _ => L2.len3 fun _ _ _ => rfl)
      (case a => k_is); (case l => k_is); (case c => k_is); (case k => k_is)
    have t_shares_of : L2.Tx (L2.KOf KX) mg "shares_of" My.s_shares_of ["pairs"] := by
      dsimp only [L2.KOf]
      refine' L2.tx_mk KX G ?a ?l ?c ?k (fun _ _ _ _ _ _ => L2.len1 fun _ => rfl)
      (case a => k_is); (case l => k_is); (case c => k_is); (case k => k_is)
    have t_hand_on : L2.Tx (L2.KOf KX) mg "hand_on" My.s_hand_on ["shares", "giver", "taker", "part"] := by
      dsimp only [L2.KOf]
      refine' L2.tx_mk KX G ?a ?l ?c ?k (fun _ _ _ _ _ _ => L2.len4 fun _ _ _ _ => rfl)
      (case a => k_is); (case l => k_is); (case c => k_is); (case k => k_is)
    have t_mixed : L2.Tx (L2.KOf KX) mg "mixed" My.s_mixed ["one", "many", "other", "more"] := by
      dsimp only [L2.KOf]
      refine' L2.tx_mk KX G ?a ?l ?c ?k (fun _ _ _ _ _ _ => L2.len4 fun _ _ _ _ => rfl)
      (case a => k_is); (case l => k_is); (case c => k_is); (case k => k_is)
    have t_losses_by : L2.Tx (L2.KOf KX) mg "losses_by" My.s_losses_by ["others", "lacking"] := by
      dsimp only [L2.KOf]
      refine' L2.tx_mk KX G ?a ?l ?c ?k (fun _ _ _ _ _ _ => L2.len2 fun _ _ => rfl)
      (case a => k_is); (case l => k_is); (case c => k_is); (case k => k_is)
    have t_pressed : L2.Tx (L2.KOf KX) mg "pressed" My.s_pressed ["shares", "giver", "taker", "part"] := by
      dsimp only [L2.KOf]
      refine' L2.tx_mk KX G ?a ?l ?c ?k (fun _ _ _ _ _ _ => L2.len4 fun _ _ _ _ => rfl)
      (case a => k_is); (case l => k_is); (case c => k_is); (case k => k_is)
    have t_law_done : L2.Tx (L2.KOf KX) mg "_law_done" My.s_law_done ["_law_shares", "_law_first", "_law_deed_here"] := by
      dsimp only [L2.KOf]
      refine' L2.tx_mk KX G ?a ?l ?c ?k (fun _ _ _ _ _ _ => L2.len3 fun _ _ _ => rfl)
      (case a => k_is); (case l => k_is); (case c => k_is); (case k => k_is)
    have t_law_step : L2.Tx (L2.KOf KX) mg "_law_step" My.s_law_step ["_law_shares", "_law_first", "_law_deed_here"] := by
      dsimp only [L2.KOf]
      refine' L2.tx_mk KX G ?a ?l ?c ?k (fun _ _ _ _ _ _ => L2.len3 fun _ _ _ => rfl)
      (case a => k_is); (case l => k_is); (case c => k_is); (case k => k_is)
    have t_law : L2.Tx (L2.KOf KX) mg "law" My.s_law ["_law_script"] := by
      dsimp only [L2.KOf]
      refine' L2.tx_mk KX G ?a ?l ?c ?k (fun _ _ _ _ _ _ => L2.len1 fun _ => rfl)
      (case a => k_is); (case l => k_is); (case c => k_is); (case k => k_is)
    obtain ⟨f, fd, F, b, hm⟩ := t_law.ex
    have e0 := hmg.symm.trans hm
    cases e0
    obtain ⟨oc, od, kV, doc, pm, an, cdv, ct, osl, rfl, lk, hcd⟩ := id F.ex
    refine ⟨PySem.W.fnOf "law" "law" (L2.defArgs My.s_law) (L2.defBody My.s_law) (L2.defScope My.s_law) .none kV doc pm an cdv ct, fun s u => .of_eq rfl, fun base kb nb => ?_⟩
    have g_FINEST : ∃ t, mg "FINEST" = some (.int 1000000000000000000000000000000000000000000000000000000000000 t) := by
      refine' L2.gint_mk KX G ?a
      (case a => k_is)
    have g_LETTERS : ∃ t, mg "LETTERS" = some (.str L2.LET t) := by
      refine' L2.gstr_mk KX G ?a
      (case a => k_is)
    have g_LONGEST_NAME : ∃ t, mg "LONGEST_NAME" = some (.int 8 t) := by
      refine' L2.gint_mk KX G ?a
      (case a => k_is)
    have b_abs : mg "abs" = none := by
      refine' L2.none_mk KX G ?a
      (case a => k_is)
    have b_all : mg "all" = none := by
      refine' L2.none_mk KX G ?a
      (case a => k_is)
    have b_any : mg "any" = none := by
      refine' L2.none_mk KX G ?a
      (case a => k_is)
    have b_zip : mg "zip" = none := by
      refine' L2.none_mk KX G ?a
      (case a => k_is)
    have b_sum : mg "sum" = none := by
      refine' L2.none_mk KX G ?a
      (case a => k_is)
    have u_NONE : ∃ p, mg "NONE" = some (.ref p) ∧ ∀ H, L2.SqT (L2.KOf KX) H p [L2.V.int 0, L2.V.int 1] := by
      dsimp only [L2.KOf]
      refine' L2.gtup_mk KX G ?a ?l ?z ?r
      (case a => k_is); (case l => k_is); (case z => decide); (case r => exact .cons ⟨_, rfl⟩ (.cons ⟨_, rfl⟩ .nil))
    have u_ALL : ∃ p, mg "ALL" = some (.ref p) ∧ ∀ H, L2.SqT (L2.KOf KX) H p [L2.V.int 1, L2.V.int 1] := by
      dsimp only [L2.KOf]
      refine' L2.gtup_mk KX G ?a ?l ?z ?r
      (case a => k_is); (case l => k_is); (case z => decide); (case r => exact .cons ⟨_, rfl⟩ (.cons ⟨_, rfl⟩ .nil))
    obtain ⟨C_TooFine, C_BadFraction, C_BadShares, C_TooLittle, C_LandError, z_TooFine, z_BadFraction, z_BadShares, z_TooLittle, z_LandError, a_TooLittle, a_TooFine, k_TooLittle_LandError, k_TooLittle_TooFine, k_TooFine_LandError, k_TooFine_TooLittle, m_TooLittle_TooLittle, m_TooFine_TooFine, o_TooFine_TooLittle⟩ : ∃ C_TooFine C_BadFraction C_BadShares C_TooLittle C_LandError, L2.ExcCl (L2.KOf KX) mg "TooFine" C_TooFine ∧ L2.ExcCl (L2.KOf KX) mg "BadFraction" C_BadFraction ∧ L2.ExcCl (L2.KOf KX) mg "BadShares" C_BadShares ∧ L2.ExcCl (L2.KOf KX) mg "TooLittle" C_TooLittle ∧ L2.ExcCl (L2.KOf KX) mg "LandError" C_LandError ∧ L2.ExcA (L2.KOf KX) C_TooLittle ∧ L2.ExcA (L2.KOf KX) C_TooFine ∧ PySem.W.kitOne (L2.KOf KX) (.ref C_TooLittle) (.ref C_LandError) = some true ∧ PySem.W.kitOne (L2.KOf KX) (.ref C_TooLittle) (.ref C_TooFine) = some false ∧ PySem.W.kitOne (L2.KOf KX) (.ref C_TooFine) (.ref C_LandError) = some true ∧ PySem.W.kitOne (L2.KOf KX) (.ref C_TooFine) (.ref C_TooLittle) = some false ∧ PySem.W.mroIn (L2.KOf KX) C_TooLittle (.ref C_TooLittle) = some true ∧ PySem.W.mroIn (L2.KOf KX) C_TooFine (.ref C_TooFine) = some true ∧ PySem.W.mroIn (L2.KOf KX) C_TooFine (.ref C_TooLittle) = some false := by
      dsimp only [L2.KOf]
      refine' ⟨_, _, _, _, _, L2.exc_mk KX G ?z_TooFinea ?z_TooFineb, L2.exc_mk KX G ?z_BadFractiona ?z_BadFractionb, L2.exc_mk KX G ?z_BadSharesa ?z_BadSharesb, L2.exc_mk KX G ?z_TooLittlea ?z_TooLittleb, L2.exc_mk KX G ?z_LandErrora ?z_LandErrorb, ⟨?a_TooLittlea, ?a_TooLittleb, ?a_TooLittlec, ?a_TooLittled, ?a_TooLittlee⟩, ⟨?a_TooFinea, ?a_TooFineb, ?a_TooFinec, ?a_TooFined, ?a_TooFinee⟩, ?k_TooLittle_LandError, ?k_TooLittle_TooFine, ?k_TooFine_LandError, ?k_TooFine_TooLittle, ?m_TooLittle_TooLittle, ?m_TooFine_TooFine, ?o_TooFine_TooLittle⟩
      (case z_TooFinea => k_is)
      (case z_TooFineb => k_exc)
      (case z_BadFractiona => k_is)
      (case z_BadFractionb => k_exc)
      (case z_BadSharesa => k_is)
      (case z_BadSharesb => k_exc)
      (case z_TooLittlea => k_is)
      (case z_TooLittleb => k_exc)
      (case z_LandErrora => k_is)
      (case z_LandErrorb => k_exc)
      (case a_TooLittlea => k_is)
      (case a_TooLittleb => k_is)
      (case a_TooLittlec => k_is)
      (case a_TooLittled => k_is)
      (case a_TooLittlee => k_is)
      (case a_TooFinea => k_is)
      (case a_TooFineb => k_is)
      (case a_TooFinec => k_is)
      (case a_TooFined => k_is)
      (case a_TooFinee => k_is)
      (case k_TooLittle_LandError => kit_is)
      (case k_TooLittle_TooFine => kit_is)
      (case k_TooFine_LandError => kit_is)
      (case k_TooFine_TooLittle => kit_is)
      (case m_TooLittle_TooLittle => k_is)
      (case m_TooFine_TooFine => k_is)
      (case o_TooFine_TooLittle => k_is)
    have d_is_number := My.ok_is_number (P := PySem.Challenge.rw_landroll_k27_whole_row_of_deeds.prog) (w := w) (base := base) t_is_number B
    have d_common_divisor := My.ok_common_divisor (P := PySem.Challenge.rw_landroll_k27_whole_row_of_deeds.prog) (w := w) (base := base) t_common_divisor B b_abs
    have d_under := My.ok_under (P := PySem.Challenge.rw_landroll_k27_whole_row_of_deeds.prog) (w := w) (base := base) t_under B
    have d_is_name := My.ok_is_name (P := PySem.Challenge.rw_landroll_k27_whole_row_of_deeds.prog) (w := w) (base := base) t_is_name B g_LONGEST_NAME g_LETTERS b_all
    have e_told_of := My.ok_told_of (P := PySem.Challenge.rw_landroll_k27_whole_row_of_deeds.prog) (w := w) (base := base) t_told_of B g_FINEST b_any z_TooFine u_NONE
    have d_share_of := My.ok_share_of (P := PySem.Challenge.rw_landroll_k27_whole_row_of_deeds.prog) (w := w) (base := base) t_share_of B u_NONE
    have d_law_cell := My.ok_law_cell (P := PySem.Challenge.rw_landroll_k27_whole_row_of_deeds.prog) (w := w) (base := base) t_law_cell B
    have d_law_whole := My.ok_law_whole (P := PySem.Challenge.rw_landroll_k27_whole_row_of_deeds.prog) (w := w) (base := base) t_law_whole B
    have d_law_divisor := My.ok_law_divisor (P := PySem.Challenge.rw_landroll_k27_whole_row_of_deeds.prog) (w := w) (base := base) t_law_divisor B b_abs
    have d_law_names := My.ok_law_names (P := PySem.Challenge.rw_landroll_k27_whole_row_of_deeds.prog) (w := w) (base := base) t_law_names B
    have d_law_plus := My.ok_law_plus (P := PySem.Challenge.rw_landroll_k27_whole_row_of_deeds.prog) (w := w) (base := base) t_law_plus B
    have d_law_under := My.ok_law_under (P := PySem.Challenge.rw_landroll_k27_whole_row_of_deeds.prog) (w := w) (base := base) t_law_under B
    have d_law_alike := My.ok_law_alike (P := PySem.Challenge.rw_landroll_k27_whole_row_of_deeds.prog) (w := w) (base := base) t_law_alike B b_zip
    have d_in_lowest_terms := My.ok_in_lowest_terms (P := PySem.Challenge.rw_landroll_k27_whole_row_of_deeds.prog) (w := w) (base := base) t_in_lowest_terms B d_common_divisor
    have d_lesser := My.ok_lesser (P := PySem.Challenge.rw_landroll_k27_whole_row_of_deeds.prog) (w := w) (base := base) t_lesser B d_under
    have d_law_fraction := My.ok_law_fraction (P := PySem.Challenge.rw_landroll_k27_whole_row_of_deeds.prog) (w := w) (base := base) t_law_fraction B d_law_divisor
    have d_law_good := My.ok_law_good (P := PySem.Challenge.rw_landroll_k27_whole_row_of_deeds.prog) (w := w) (base := base) t_law_good B d_law_plus d_law_whole
    have d_law_would := My.ok_law_would (P := PySem.Challenge.rw_landroll_k27_whole_row_of_deeds.prog) (w := w) (base := base) t_law_would B d_law_plus d_law_under
    have e_fraction := My.ok_fraction (P := PySem.Challenge.rw_landroll_k27_whole_row_of_deeds.prog) (w := w) (base := base) t_fraction B d_in_lowest_terms d_is_number z_BadFraction
    have d_plus := My.ok_plus (P := PySem.Challenge.rw_landroll_k27_whole_row_of_deeds.prog) (w := w) (base := base) t_plus B d_in_lowest_terms
    have d_minus := My.ok_minus (P := PySem.Challenge.rw_landroll_k27_whole_row_of_deeds.prog) (w := w) (base := base) t_minus B d_in_lowest_terms
    have d_product := My.ok_product (P := PySem.Challenge.rw_landroll_k27_whole_row_of_deeds.prog) (w := w) (base := base) t_product B d_in_lowest_terms
    have d_quotient := My.ok_quotient (P := PySem.Challenge.rw_landroll_k27_whole_row_of_deeds.prog) (w := w) (base := base) t_quotient B d_in_lowest_terms
    have d_law_owned := My.ok_law_owned (P := PySem.Challenge.rw_landroll_k27_whole_row_of_deeds.prog) (w := w) (base := base) t_law_owned B d_law_cell d_law_fraction b_sum
    have d_law_deed := My.ok_law_deed (P := PySem.Challenge.rw_landroll_k27_whole_row_of_deeds.prog) (w := w) (base := base) t_law_deed B d_law_fraction
    have d_sum_of := My.ok_sum_of (P := PySem.Challenge.rw_landroll_k27_whole_row_of_deeds.prog) (w := w) (base := base) t_sum_of B d_plus u_NONE
    have d_raise_share := My.ok_raise_share (P := PySem.Challenge.rw_landroll_k27_whole_row_of_deeds.prog) (w := w) (base := base) t_raise_share B d_plus u_NONE
    have d_lower_share := My.ok_lower_share (P := PySem.Challenge.rw_landroll_k27_whole_row_of_deeds.prog) (w := w) (base := base) t_lower_share B d_minus u_NONE
    have e_shares_of := My.ok_shares_of (P := PySem.Challenge.rw_landroll_k27_whole_row_of_deeds.prog) (w := w) (base := base) t_shares_of B e_told_of d_raise_share d_sum_of d_is_name d_under z_BadShares u_NONE u_ALL
    have e_hand_on := My.ok_hand_on (P := PySem.Challenge.rw_landroll_k27_whole_row_of_deeds.prog) (w := w) (base := base) t_hand_on B d_under d_lower_share d_raise_share e_told_of d_share_of z_TooLittle
    have e_mixed := My.ok_mixed (P := PySem.Challenge.rw_landroll_k27_whole_row_of_deeds.prog) (w := w) (base := base) t_mixed B e_told_of d_raise_share d_product e_fraction
    have d_losses_by := My.ok_losses_by (P := PySem.Challenge.rw_landroll_k27_whole_row_of_deeds.prog) (w := w) (base := base) t_losses_by B d_sum_of d_quotient d_lesser d_product u_NONE
    have e_pressed := My.ok_pressed (P := PySem.Challenge.rw_landroll_k27_whole_row_of_deeds.prog) (w := w) (base := base) t_pressed B d_lesser d_losses_by d_lower_share d_raise_share d_share_of d_minus d_plus e_told_of d_sum_of
    have d_law_done := My.ok_law_done (P := PySem.Challenge.rw_landroll_k27_whole_row_of_deeds.prog) (w := w) (base := base) t_law_done B e_mixed e_pressed e_hand_on z_LandError z_TooLittle z_TooFine a_TooLittle a_TooFine k_TooLittle_LandError k_TooLittle_TooFine k_TooFine_LandError k_TooFine_TooLittle m_TooLittle_TooLittle m_TooFine_TooFine o_TooFine_TooLittle
    have d_law_step := My.ok_law_step (P := PySem.Challenge.rw_landroll_k27_whole_row_of_deeds.prog) (w := w) (base := base) t_law_step B d_law_done d_law_would d_law_under d_law_good d_law_alike d_law_fraction
    exact My.ok_law F B d_law_names d_law_owned e_shares_of d_law_cell d_law_deed d_law_step d_law_good
  case S => exact fun K H a ns hl hO hS => ⟨a, ns, rfl, hS, hl, fun _ => rfl⟩
  case C => exact fun _ _ _ _ h => h
#print axioms PySem.Challenge.cw_landroll_k27_whole_row_of_deeds_holds
