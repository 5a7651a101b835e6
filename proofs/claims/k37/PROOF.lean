import PyProof.Rows.All
import Wide.All
import OpenK.AllK
import Wide.FinOn
import Lean
import PyProof.EqAt
import PyProof.EqKinds
import PyProof.TupleCall
-- CHANGE: your row's module here, as the last of these rows
import PySem.Challenge.RW_landroll_k37_whole_row_of_deeds
set_option Elab.async false
set_option linter.all false
set_option maxRecDepth 100000
/-! THE HAND LAYER, for ints, bools, texts, own classes, LISTS and tuples (index, slices, in, append, pop ..), calls, loops. Paste it whole ahead of your own text; what your proof does not reach may be deleted. -/
namespace L2
open PySem PySem.Spec PyProof.Rows

/-- a key: an int or a str -/
noncomputable abbrev Key := Sum Int Str
noncomputable def keyIs : Key → Value → Bool
  | .inl k, v => Value.isInt k v
  | .inr x, v => Value.isStrOf x v
noncomputable def keyH (w : World) : Key → Int
  | .inl k => hashInt k
  | .inr x => hashStr w x
theorem keyIs_shape : ∀ {k : Key} {v : Value}, keyIs k v = true → (∃ i t, k = Sum.inl i ∧ v = Value.int i t) ∨ (∃ x t, k = Sum.inr x ∧ v = Value.str x t)
  | .inl i, v, h => by
    obtain ⟨t, e⟩ := Value.isInt_shape (k := i) (v := v) h
    exact .inl ⟨i, t, rfl, e⟩
  | .inr x, v, h => by
    obtain ⟨t, e⟩ := Value.isStrOf_shape (x := x) (v := v) h
    exact .inr ⟨x, t, rfl, e⟩
theorem keyIs_int (i : Int) (t : Tok) : keyIs (.inl i) (.int i t) = true := by simp [keyIs, Value.isInt]
theorem keyIs_str (x : Str) (t : Tok) : keyIs (.inr x) (.str x t) = true := by simp [keyIs, Value.isStrOf]
theorem key_ll (a b : Int) : decide ((Sum.inl a : Key) = Sum.inl b) = (a == b) := by
  by_cases e : a = b
  · subst e; simp
  · have h : ¬ (Sum.inl a : Key) = Sum.inl b := fun q => e (Sum.inl.inj q)
    rw [decide_eq_false h]
    exact (beq_eq_false_iff_ne.mpr e).symm
theorem key_rr (a b : Str) : decide ((Sum.inr a : Key) = Sum.inr b) = decide (a = b) := by
  by_cases e : a = b
  · subst e; simp
  · have h : ¬ (Sum.inr a : Key) = Sum.inr b := fun q => e (Sum.inr.inj q)
    rw [decide_eq_false h, decide_eq_false e]
theorem key_lr (a : Int) (b : Str) : decide ((Sum.inl a : Key) = Sum.inr b) = false := decide_eq_false (fun q => nomatch q)
theorem key_rl (a : Str) (b : Int) : decide ((Sum.inr a : Key) = Sum.inl b) = false := decide_eq_false (fun q => nomatch q)

noncomputable def mixKind (prog : Program) (w : World) : PySem.KeyKind prog w Key where
  is := keyIs
  hash := keyH w
  inj := fun v a b ha hb => by
    rcases keyIs_shape ha with ⟨i, t, rfl, rfl⟩ | ⟨x, t, rfl, rfl⟩
    · rcases keyIs_shape hb with ⟨j, u, rfl, e⟩ | ⟨y, u, rfl, e⟩
      · injection e with e1 _; rw [e1]
      · exact nomatch e
    · rcases keyIs_shape hb with ⟨j, u, rfl, e⟩ | ⟨y, u, rfl, e⟩
      · exact nomatch e
      · injection e with e1 _; rw [e1]
  byValue := fun k v h => by
    rcases keyIs_shape h with ⟨i, t, rfl, rfl⟩ | ⟨x, t, rfl, rfl⟩ <;> rfl
  pyHash := fun hv h => by
    rcases keyIs_shape hv with ⟨i, t, rfl, rfl⟩ | ⟨x, t, rfl, rfl⟩
    · exact wpAny_pyHash_int h
    · exact wpAny_pyHash_str h
  eqBool := fun hu hv h => by
    rcases keyIs_shape hu with ⟨i, t, rfl, rfl⟩ | ⟨x, t, rfl, rfl⟩
    · rcases keyIs_shape hv with ⟨j, u, rfl, rfl⟩ | ⟨y, u, rfl, rfl⟩
      · rw [key_ll] at h; exact wpAny_eqBool_int h
      · rw [key_lr] at h; exact SeqAt.EqAt.int_str i t y u _ _ _ _ h
    · rcases keyIs_shape hv with ⟨j, u, rfl, rfl⟩ | ⟨y, u, rfl, rfl⟩
      · rw [key_rl] at h; exact SeqAt.EqAt.str_int x t j u _ _ _ _ h
      · rw [key_rr] at h; exact wpAny_eqBool_str h
  «strs» := fun k x t v h => by
    rcases keyIs_shape h with ⟨i, u, rfl, e⟩ | ⟨y, u, rfl, e⟩
    · exact nomatch e
    · injection e with e1 _
      subst e1
      cases v <;> rfl

theorem mixKind_int (prog : Program) (w : World) (i : Int) (t : Tok) : (mixKind prog w).is (.inl i) (.int i t) = true := keyIs_int i t
theorem mixKind_str (prog : Program) (w : World) (x : Str) (t : Tok) : (mixKind prog w).is (.inr x) (.str x t) = true := keyIs_str x t
end L2

namespace L2
open PySem PySem.Spec PyProof.Rows

/-- a value, without the heap -/
inductive V where
  | non | bl (b : Bool) | int (i : Int) | str (x : Str) | byt (b : Array UInt8) | flt (b : UInt64) | ref (a : Addr) | ty (n : String)
  deriving DecidableEq

noncomputable def RelV : V → Value → Prop
  | .non, u => u = Value.none
  | .bl b, u => u = Value.bool b
  | .int i, u => ∃ t, u = Value.int i t
  | .str x, u => ∃ t, u = Value.str x t
  | .byt b, u => ∃ t, u = Value.bytes b t
  | .flt b, u => ∃ t, u = Value.float b t
  | .ref a, u => u = Value.ref a
  | .ty n, u => u = Value.type n

noncomputable abbrev Vals : List V → List Value → Prop := Paired RelV
theorem Vals.length {xs : List V} {us : List Value} (r : Vals xs us) : xs.length = us.length := Paired.length r
theorem Vals.get : ∀ {xs : List V} {us : List Value} {i : Nat} {x : V}, Vals xs us → xs[i]? = some x → ∃ u, us[i]? = some u ∧ RelV x u
  | _, _, _, _, .nil, e => by simp at e
  | _, _, 0, _, .cons r _, e => by simp at e; subst e; exact ⟨_, rfl, r⟩
  | _, _, i + 1, x, .cons _ t, e => by
    obtain ⟨u, h1, h2⟩ := Vals.get (i := i) (x := x) t (by simpa using e)
    exact ⟨u, by simpa using h1, h2⟩
theorem Vals.set {x : V} {u : Value} (r : RelV x u) : ∀ {xs : List V} {us : List Value} (i : Nat), Vals xs us → Vals (xs.set i x) (us.set i u)
  | _, _, _, .nil => .nil
  | _, _, 0, .cons _ t => .cons r t
  | _, _, i + 1, .cons q t => .cons q (Vals.set r i t)
theorem Vals.append : ∀ {xs ys : List V} {us ws : List Value}, Vals xs us → Vals ys ws → Vals (xs ++ ys) (us ++ ws)
  | _, _, _, _, .nil, s => s
  | _, _, _, _, .cons r t, s => .cons r (Vals.append t s)
theorem Vals.take : ∀ {xs : List V} {us : List Value} (n : Nat), Vals xs us → Vals (xs.take n) (us.take n)
  | _, _, 0, _ => .nil
  | _, _, _ + 1, .nil => .nil
  | _, _, n + 1, .cons r t => .cons r (Vals.take n t)
theorem Vals.drop : ∀ {xs : List V} {us : List Value} (n : Nat), Vals xs us → Vals (xs.drop n) (us.drop n)
  | _, _, 0, r => r
  | _, _, _ + 1, .nil => .nil
  | _, _, n + 1, .cons _ t => Vals.drop n t
noncomputable def RelO : Option V → Option Value → Prop
  | some v, some u => RelV v u
  | none, none => True
  | _, _ => False
noncomputable def KV {κ : Type} : List (κ × V) → List (κ × Value) → Prop := Paired fun (p : κ × V) (q : κ × Value) => p.1 = q.1 ∧ RelV p.2 q.2

/-- a key of a dict (00_mix): an int or a text -/
noncomputable def kV : Key → V
  | .inl i => .int i
  | .inr x => .str x

/-- what stands at a tracked address -/
inductive HO where
  /-- a list -/
  | lst (xs : List V)
  /-- a tuple (never changes) -/
  | tup (xs : List V)
  /-- a dict whose keys are ints and texts; one whose keys are tuples of ints and texts (the empty one is both) -/
  | dK (kvs : List (Key × V)) | dT (kvs : List (List Key × V))
  /-- a set of ints: its members, its size -/
  | set (S : Int → Bool) (n : Nat)
  /-- an instance of the class at C, its dict at dx, its attributes -/
  | ins (C dx : Addr) (fs : List (Str × V))
  /-- the dict of the instance at x -/
  | own (x : Addr)
  /-- the dict of an exception -/
  | xd (fs : List (Str × V))
  /-- a bound method, f of x -/
  | met (f x : Addr)
  /-- a range object lo, lo + 1, .. below hi -/
  | rng (lo hi : Int)
  /-- a thing that is known to the object (the script; a dict while a loop walks it): read, never written while it is so -/
  | frz (o : Obj) (u : HO)
  /-- a code object's table -/
  | tbl (ps : Array Value)
  /-- any other thing, by what is true of its one object (a def of one's own: SetO a S n := HO.ext fun h => ..) -/
  | ext (φ : Heap → Prop)

noncomputable abbrev Hp := Addr → Option HO
noncomputable def upd (H : Hp) (a : Addr) (o : HO) : Hp := fun b => if b = a then some o else H b
theorem upd_same {H : Hp} {a : Addr} {o : HO} : upd H a o a = some o := by unfold upd; rw [if_pos rfl]
theorem upd_ne {H : Hp} {a b : Addr} {o : HO} (h : b ≠ a) : upd H a o b = H b := by unfold upd; rw [if_neg h]
theorem upd_upd {H : Hp} {a : Addr} {o u : HO} : upd (upd H a o) a u = upd H a u := by
  funext b; unfold upd; split <;> rfl
/-- two objects of different content stand apart -/
theorem ne_of {H : Hp} {a b : Addr} {o u : HO} (h : H a = some o) (h' : H b = some u) (d : o ≠ u) : a ≠ b := by
  intro e; subst e; rw [h] at h'; exact d (Option.some.inj h')
theorem ne_of_none {H : Hp} {a b : Addr} {o : HO} (h : H a = some o) (h' : H b = none) : a ≠ b := by
  intro e; subst e; rw [h] at h'; cases h'

section
variable (P : Program) (w : World)
noncomputable def ObjOk (H : Hp) (h : Heap) (a : Addr) : HO → Prop
  | .lst xs => xs.length ≤ sizeLine ∧ ∃ (its : List Value) (n : Nat), Vals xs its ∧ h.get? a = some { cls := .type "list", data := .seq its.toArray n }
  | .tup xs => xs.length ≤ sizeLine ∧ ∃ its : List Value, Vals xs its ∧ IsTup h a its.toArray
  | .dK kvs => kvs.length ≤ sizeLine ∧ (a == sysModules) = false ∧ ∃ vs, KV kvs vs ∧ h.DictOf (mixKind P w) a vs
  | .dT kvs => kvs.length ≤ sizeLine ∧ (a == sysModules) = false ∧ ∃ xs : List (List Key × Addr × Value),
      Paired (fun (p : List Key × V) (q : List Key × Addr × Value) => p.1 = q.1 ∧ H q.2.1 = some (.tup (p.1.map kV)) ∧ RelV p.2 q.2.2) kvs xs ∧
      ∃ o es ep, h.get? a = some o ∧ o.ExactDict ∧ o.data = .dict es ep ∧ es.toList = xs.map (entryOfKey (tupleKind (mixKind P w))) ∧ (xs.map (·.1)).Nodup
  | .set S n => h.SetOf (intKind P w) a S n
  | .ins C dx fs => H dx = some (.own a) ∧ fs.length ≤ 1000 ∧ dx ≠ a ∧ h.get? a = some (PySem.W.instObj C dx) ∧
      ∃ mA, h.Ns1 dx mA ∧ (∀ f, RelO (fs.lookup f) (mA f)) ∧ PySem.Within mA (fs.map (·.1))
  | .own _ => ∃ o, h.get? a = some o
  | .xd fs => ∃ mA, h.Ns1 a mA ∧ ∀ f, RelO (fs.lookup f) (mA f)
  | .rng lo hi => ∃ t u v, h.get? a = some { cls := .type "range", data := .fields #[.int lo t, .int hi u, .int 1 v] }
  | .frz o u => h.get? a = some o ∧ ObjOk H h a u
  | .tbl ps => h.get? a = some { cls := .none, data := .fields ps }
  | .met f x => h.get? a = some (PySem.W.methodObj (.ref f) (.ref x))
  | .ext φ => φ h ∧ (∃ o, h.get? a = some o) ∧ ∀ h1 h2 : Heap, φ h1 → (∀ o, h1.get? a = some o → h2.get? a = some o) → φ h2
/-- the abstract heap is held -/
noncomputable def HOk (H : Hp) (h : Heap) : Prop := ∀ a o, H a = some o → ObjOk P w H h a o
end

section
variable {P : Program} {w : World} {H H' : Hp} {h h' : Heap} {a : Addr} {o : HO}
theorem ObjOk.lt (x : ObjOk P w H h a o) : a < h.objs.size := by
  cases o with
  | lst xs => obtain ⟨_, _, _, _, e⟩ := x; exact Heap.lt_size e
  | tup xs => obtain ⟨_, _, _, p⟩ := x; exact p.lt
  | dK kvs => obtain ⟨_, _, _, _, o, _, _, e, _⟩ := x; exact Heap.lt_size e
  | dT kvs => obtain ⟨_, _, _, _, o, _, _, e, _⟩ := x; exact Heap.lt_size e
  | set S n => obtain ⟨o, _, _, _, e, _⟩ := x; exact Heap.lt_size e
  | ins C dx fs => obtain ⟨_, _, _, e, _⟩ := x; exact Heap.lt_size e
  | own y => obtain ⟨_, e⟩ := x; exact Heap.lt_size e
  | xd fs => obtain ⟨_, ⟨_, _, _, e, _⟩, _⟩ := x; exact Heap.lt_size e
  | rng lo hi => obtain ⟨_, _, _, e⟩ := x; exact Heap.lt_size e
  | frz ob u => obtain ⟨e, _⟩ := x; exact Heap.lt_size e
  | tbl ps => exact Heap.lt_size (show h.get? a = some _ from x)
  | met f y => exact Heap.lt_size (show h.get? a = some _ from x)
  | ext φ => obtain ⟨_, ⟨_, e⟩, _⟩ := x; exact Heap.lt_size e
theorem Paired.mapP {α β : Type} {F G : α → β → Prop} : ∀ {l₁ : List α} {l₂ : List β}, Paired F l₁ l₂ → (∀ a b, F a b → G a b) → Paired G l₁ l₂
  | _, _, .nil, _ => .nil
  | _, _, .cons r t, f => .cons (f _ _ r) (Paired.mapP t f)
/-- what an object's description leans on: its own object, its own dict, the tuples -/
theorem ObjOk.stay (x : ObjOk P w H h a o) (k : ∀ b u, (b = a ∨ H b = some (.own a)) → h.get? b = some u → h'.get? b = some u)
    (ho : ∀ b, H b = some (.own a) → H' b = some (.own a)) (ht : ∀ b xs, H b = some (.tup xs) → H' b = some (.tup xs)) : ObjOk P w H' h' a o := by
  induction o with
  | lst xs => obtain ⟨z, its, n, r, e⟩ := x; exact ⟨z, its, n, r, k _ _ (.inl rfl) e⟩
  | tup xs => obtain ⟨z, its, r, ob, e, c⟩ := x; exact ⟨z, its, r, ob, k _ _ (.inl rfl) e, c⟩
  | dK kvs => obtain ⟨z, y, vs, r, ob, es, ep, e, c⟩ := x; exact ⟨z, y, vs, r, ob, es, ep, k _ _ (.inl rfl) e, c⟩
  | dT kvs =>
    obtain ⟨z, y, xs, r, ob, es, ep, e, c⟩ := x
    exact ⟨z, y, xs, Paired.mapP r fun p q z => ⟨z.1, ht _ _ z.2.1, z.2.2⟩, ob, es, ep, k _ _ (.inl rfl) e, c⟩
  | set S n => obtain ⟨ob, es, ep, t, e, c⟩ := x; exact ⟨ob, es, ep, t, k _ _ (.inl rfl) e, c⟩
  | ins C dx fs =>
    obtain ⟨d, z, ne, e, mA, ⟨od, es, ep, e2, c⟩, r⟩ := x
    exact ⟨ho _ d, z, ne, k _ _ (.inl rfl) e, mA, ⟨od, es, ep, k _ _ (.inr d) e2, c⟩, r⟩
  | own y => obtain ⟨ob, e⟩ := x; exact ⟨ob, k _ _ (.inl rfl) e⟩
  | xd fs => obtain ⟨mA, ⟨od, es, ep, e, c⟩, r⟩ := x; exact ⟨mA, ⟨od, es, ep, k _ _ (.inl rfl) e, c⟩, r⟩
  | rng lo hi => obtain ⟨t, u, v, e⟩ := x; exact ⟨t, u, v, k _ _ (.inl rfl) e⟩
  | frz ob u ih => obtain ⟨e, q⟩ := x; exact ⟨k _ _ (.inl rfl) e, ih q⟩
  | tbl ps =>
    have e : h.get? a = some { cls := .none, data := .fields ps } := x
    show h'.get? a = some { cls := .none, data := .fields ps }
    exact k a _ (.inl rfl) e
  | met f y =>
    have e : h.get? a = some (PySem.W.methodObj (.ref f) (.ref y)) := x
    show h'.get? a = some (PySem.W.methodObj (.ref f) (.ref y))
    exact k a _ (.inl rfl) e
  | ext φ => obtain ⟨p, ⟨o, e⟩, st⟩ := x; exact ⟨st _ _ p fun o q => k _ _ (.inl rfl) q, ⟨o, k _ _ (.inl rfl) e⟩, st⟩
theorem HOk.lt (x : HOk P w H h) (e : H a = some o) : a < h.objs.size := (x a o e).lt
theorem HOk.fresh (x : HOk P w H h) (e : h.objs.size ≤ a) : H a = none := by
  cases q : H a with
  | none => rfl
  | some u => exact absurd (Nat.lt_of_lt_of_le (x.lt q) e) (Nat.lt_irrefl _)
/-- every object of the heap is kept -/
theorem HOk.kept (x : HOk P w H h) (k : ∀ b u, h.get? b = some u → h'.get? b = some u) : HOk P w H h' := fun a o e =>
  (x a o e).stay (fun b u _ q => k b u q) (fun _ q => q) fun _ _ q => q
/-- a new object is laid and tracked -/
theorem HOk.laid (x : HOk P w H h) (k : ∀ b u, h.get? b = some u → h'.get? b = some u) (hp : h.objs.size ≤ a) (new : ObjOk P w (upd H a o) h' a o) : HOk P w (upd H a o) h' := fun b u e => by
  have hn := x.fresh hp
  by_cases hb : b = a
  · subst hb; rw [upd_same] at e; cases e; exact new
  · rw [upd_ne hb] at e
    exact (x b u e).stay (fun c v _ q => k c v q) (fun c q => by rw [upd_ne (ne_of_none q hn)]; exact q) fun c xs q => by rw [upd_ne (ne_of_none q hn)]; exact q
end

/-- what may be read as u: it is u, or a known u -/
noncomputable def Rd (H : Hp) (a : Addr) (u : HO) : Prop := H a = some u ∨ ∃ o, H a = some (.frz o u)
theorem Rd.ok {P : Program} {w : World} {H : Hp} {h : Heap} {a : Addr} {u : HO} (r : Rd H a u) (x : HOk P w H h) : ObjOk P w H h a u := by
  rcases r with r | ⟨o, r⟩
  · exact x a u r
  · obtain ⟨_, q⟩ := x a _ r
    exact q
/-- what may be written -/
noncomputable def Mut : Option HO → Prop
  | some (.lst _) => True
  | some (.dK _) => True
  | some (.dT _) => True
  | some (.set _ _) => True
  | some (.ins _ _ _) => True
  | some (.ext _) => True
  | _ => False
section
variable {P : Program} {w : World} {H : Hp} {h h' : Heap} {x e : Addr} {o' : HO}
/-- the object at e is changed: x itself, or the dict of the instance x -/
theorem HOk.write (ok : HOk P w H h) (mu : Mut (H x)) (he : e = x ∨ H e = some (.own x)) (k : ∀ b u, b ≠ e → h.get? b = some u → h'.get? b = some u) (heo : ∃ u, h'.get? e = some u)
    (new : ObjOk P w (upd H x o') h' x o') : HOk P w (upd H x o') h' := fun b u q => by
  have nown : ∀ c y, H c = some (.own y) → c ≠ x := fun c y r z => by subst z; rw [r] at mu; exact mu
  have ntup : ∀ c xs, H c = some (.tup xs) → c ≠ x := fun c xs r z => by subst z; rw [r] at mu; exact mu
  by_cases hb : b = x
  · subst hb; rw [upd_same] at q; cases q; exact new
  · rw [upd_ne hb] at q
    by_cases hbe : b = e
    · have q' : H b = some (.own x) := by
        rcases he with z | z
        · exact absurd (hbe.trans z) hb
        · rw [hbe]; exact z
      rw [q] at q'; cases q'
      obtain ⟨v, hv⟩ := heo
      exact ⟨v, by rw [hbe]; exact hv⟩
    · refine (ok b u q).stay (fun c v hc r => k c v ?_ r) (fun c r => by rw [upd_ne (nown c b r)]; exact r) fun c xs r => by rw [upd_ne (ntup c xs r)]; exact r
      rcases hc with rfl | hc
      · exact hbe
      · rintro rfl
        rcases he with z | z
        · exact nown c b hc z
        · rw [hc] at z; cases z; exact hb rfl
end

/-! ### kept unless tracked; of the frames at fs (the callers') the slots may change (an exception that passes writes there); of the records at ex (iterators) nothing is said -/
structure Un (fs ex : List Addr) (H H' : Hp) (h h' : Heap) : Prop where
  keep : ∀ b o, h.get? b = some o → H b = none → b ∉ fs → b ∉ ex → h'.get? b = some o
  slot : ∀ b o, h.get? b = some o → H b = none → b ∈ fs → b ∉ ex → ∃ sl, h'.get? b = some { o with slots := sl }
  free : ∀ b o, h.get? b = some o → H b = none → b ∉ ex → H' b = none
  there : ∀ b o, h.get? b = some o → b ∉ ex → ∃ o', h'.get? b = some o'
  tups : ∀ b xs, H b = some (.tup xs) → H' b = some (.tup xs)
  frzs : ∀ b o u, H b = some (.frz o u) → H' b = some (.frz o u)
  tbls : ∀ b ps, H b = some (.tbl ps) → ∃ more, H' b = some (.tbl (ps ++ more))
section
variable {fs fs' ex ex' : List Addr} {H H1 H2 : Hp} {h h1 h2 h' : Heap} {a x e : Addr} {o : HO}
theorem Un.any (u : Un fs ex H H1 h h1) {b : Addr} {ob : Obj} (q : h.get? b = some ob) (n : H b = none) (hx : b ∉ ex) : ∃ sl, h1.get? b = some { ob with slots := sl } := by
  by_cases hb : b ∈ fs
  · exact u.slot b ob q n hb hx
  · exact ⟨ob.slots, u.keep b ob q n hb hx⟩
theorem Un.kept (k : ∀ b u, h.get? b = some u → h'.get? b = some u) : Un fs ex H H h h' :=
  ⟨fun b ob q _ _ _ => k b ob q, fun b ob q _ _ _ => ⟨ob.slots, k b ob q⟩, fun _ _ _ n _ => n, fun b ob q _ => ⟨ob, k b ob q⟩, fun _ _ q => q, fun _ _ _ q => q, fun _ ps q => ⟨#[], by rw [q]; simp⟩⟩
theorem Un.refl : Un fs ex H H h h := Un.kept fun _ _ q => q
theorem Un.laid (k : ∀ b u, h.get? b = some u → h'.get? b = some u) (hp : h.objs.size ≤ a) (hn : H a = none) : Un fs ex H (upd H a o) h h' where
  keep := fun b u q _ _ _ => k b u q
  slot := fun b u q _ _ _ => ⟨u.slots, k b u q⟩
  free := fun b u q n _ => by rw [upd_ne (Nat.ne_of_lt (Nat.lt_of_lt_of_le (Heap.lt_size q) hp))]; exact n
  there := fun b u q _ => ⟨u, k b u q⟩
  tups := fun b xs q => by rw [upd_ne (ne_of_none q hn)]; exact q
  frzs := fun b u xs q => by rw [upd_ne (ne_of_none q hn)]; exact q
  tbls := fun b ps q => ⟨#[], by rw [upd_ne (ne_of_none q hn), q]; simp⟩
theorem Un.write (mu : Mut (H x)) (he : e = x ∨ H e = some (.own x)) (k : ∀ b u, b ≠ e → h.get? b = some u → h'.get? b = some u) (heo : ∃ u, h'.get? e = some u) : Un fs ex H (upd H x o) h h' := by
  have hx : ∀ b, H b = none → b ≠ x := fun b n z => by subst z; rw [n] at mu; exact mu
  have hb : ∀ b, H b = none → b ≠ e := fun b n z => by
    subst z
    rcases he with r | r
    · exact hx b n r
    · rw [n] at r; cases r
  have hm : ∀ b u, H b = some u → ¬ Mut (some u) → b ≠ x := fun b u q nm z => by subst z; rw [q] at mu; exact nm mu
  refine ⟨fun b u q n _ _ => k b u (hb b n) q, fun b u q n _ _ => ⟨u.slots, k b u (hb b n) q⟩, fun b u q n _ => by rw [upd_ne (hx b n)]; exact n, fun b u q _ => ?_,
    fun b xs q => by rw [upd_ne (hm b _ q fun z => z)]; exact q, fun b u xs q => by rw [upd_ne (hm b _ q fun z => z)]; exact q, fun b ps q => ⟨#[], by rw [upd_ne (hm b _ q fun z => z), q]; simp⟩⟩
  by_cases hbe : b = e
  · subst hbe; exact heo
  · exact ⟨u, k b u hbe q⟩
end

/-! ### the heap without what is tracked -/
noncomputable def trk (h : Heap) (H : Hp) : List Addr := (List.range h.objs.size).filter fun a => (H a).isSome
noncomputable def hidT (h : Heap) (H : Hp) : Heap := PySem.W.hideAll h (trk h H)
theorem hidT_size (h : Heap) (H : Hp) : (hidT h H).objs.size = h.objs.size := PySem.W.hideAll_size _ _
theorem hidT_get {h : Heap} {H : Hp} {b : Addr} {o : Obj} (e : h.get? b = some o) (n : H b = none) : (hidT h H).get? b = some o :=
  PySem.W.hideAll_get _ e fun hm => by
    have q : (H b).isSome = true := (List.mem_filter.mp hm).2
    rw [n] at q; simp at q
theorem of_hidT {h : Heap} {H : Hp} {b : Addr} {o : Obj} (e : (hidT h H).get? b = some o) : h.get? b = some o ∧ H b = none := by
  have e' : h.get? b = some o := PySem.W.of_hideAll (trk h H) e
  refine ⟨e', ?_⟩
  cases q : H b with
  | none => rfl
  | some x =>
    have hm : b ∈ trk h H := List.mem_filter.mpr ⟨List.mem_range.mpr (Heap.lt_size e'), by simp [q]⟩
    have z : (hidT h H).get? b = none := PySem.W.hideAll_none (trk h H) hm
    rw [z] at e; cases e

/-! ### OpenK's ledger, filled with every new object but one -/
end L2

namespace L2
open PySem PySem.Spec PyProof.Rows

/-- the module's facts, over the base: the heap at the law's entry without what is tracked there -/
structure Mod (K : PySem.W.Frag) (mg : Str → Option Value) (base : Heap) : Prop where
  kin : K.In base
  glob : base.Ns mainGlobals mg
  blt : ∃ mb, base.Ns builtinsNs mb ∧ ∀ x : Str, x ≠ "__name__" → mb x = bootBuiltins x
  nolimit : base.NoLimit

/-- the context: a def's body (or a comprehension's block) running. base: fixed through the whole law; s₀, H₀: the entry; outer: the frames whose slots others may change (a def's callers); stack: all frames that run;
   ex: iterators that were made ahead of the entry and are walked here (a comprehension's); fn: the names whose cells were made at the entry (a def: all; a comprehension's block: its own); calm: not within an except suite; pn: pins that every state bears; xe: what is wanted of an exception that leaves the code -/
structure Cx where
  prog : Program
  w : World
  K : PySem.W.Frag
  mg : Str → Option Value
  base : Heap
  A : Around
  N : List Str
  s₀ : Shared
  H₀ : Hp
  env : Env
  outer : List Env
  stack : List Env
  ex : List Addr
  fn : Str → Bool
  calm : Bool
  pn : List (Addr × Obj)
  xe : Value → Shared → Prop
/-- the callers' frames -/
noncomputable def frs (l : List Env) : List Addr := l.filterMap (·.frame)
noncomputable abbrev Cx.fs (X : Cx) : List Addr := frs X.outer

noncomputable def Vis (sc : Scope) (x : Str) : Prop := sc.names.lookup x = some .local ∨ sc.names.lookup x = some .cell ∨ sc.names.lookup x = some .free
noncomputable def Loc (sc : Scope) (x : Str) : Prop := sc.names.lookup x = some .local ∨ sc.names.lookup x = some .cell
noncomputable def Look (env : Env) (h : Heap) (m : Str → Option Value) (x : Str) (u : Value) : Prop :=
  (env.kindOf x = some .local ∧ m x = some u) ∨ ((env.kindOf x = some .cell ∨ env.kindOf x = some .free) ∧ ∃ c, env.cells.lookup x = some c ∧ h.IsCell c (some u))

structure Cx.Ok (X : Cx) : Prop where
  mod : Mod X.K X.mg X.base
  kind : X.env.scope.kind = .function
  glob : X.env.globals = mainGlobals
  blt : X.env.builtins = builtinsNs
  above : X.s₀.heap.objs.size ≤ X.env.locals
  inj : ∀ x y c, X.env.cells.lookup x = some c → X.env.cells.lookup y = some c → x = y
  has : ∀ x, (X.env.kindOf x = some .cell ∨ X.env.kindOf x = some .free) → ∃ c, X.env.cells.lookup x = some c
  cab : ∀ x c, X.fn x = true → X.env.cells.lookup x = some c → X.s₀.heap.objs.size ≤ c
  hd : X.calm = true → X.A.handled = none
  frames : X.A.frames = some X.stack
  stk : X.stack = X.outer ∨ (X.stack = X.env :: X.outer ∧ X.env.frame = some X.env.locals)
  exf : ∀ b ∈ X.ex, b ≠ X.env.locals ∧ ∀ x c, X.env.cells.lookup x = some c → c ≠ b
  bs : ∀ b o, X.base.get? b = some o → X.s₀.heap.get? b = some o ∧ X.H₀ b = none
  bsz : X.base.objs.size ≤ X.s₀.heap.objs.size
  noex : ∀ b o, X.base.get? b = some o → b ∉ X.ex
  exfs : ∀ b ∈ X.ex, b ∉ X.fs
  funs : X.s₀.heap.FunFrames X.base X.outer
  frf : ∀ b ∈ X.fs, X.H₀ b = none

structure Inv (X : Cx) (pins : List (Addr × Obj)) (σ : List (Option V)) (H : Hp) (s : Shared) : Prop where
  ok : X.Ok
  os : s.os = X.s₀.os
  bare : AllBare s.gens
  base : Un X.fs X.ex X.H₀ H X.s₀.heap s.heap
  loc : ∃ m, s.heap.Ns X.env.locals m ∧ ∀ (i : Nat) (x : Str) (v : V), X.N[i]? = some x → σ[i]? = some (some v) → Vis X.env.scope x → ∃ u, RelV v u ∧ Look X.env s.heap m x u
  cell : ∀ x c, X.env.cells.lookup x = some c → ∃ v, s.heap.IsCell c v
  free : H X.env.locals = none
  freeC : ∀ x c, X.env.cells.lookup x = some c → H c = none
  pin : ∀ p ∈ X.pn ++ pins, s.heap.get? p.1 = some p.2 ∧ H p.1 = none ∧ p.1 ≠ X.env.locals ∧ p.1 ∉ X.fs ∧ ∀ v, p.2.data ≠ .cell v
  hok : HOk X.prog X.w H s.heap
  len : σ.length = X.N.length

section
variable {X : Cx} {pins : List (Addr × Obj)} {σ : List (Option V)} {H H' : Hp} {s : Shared} {h' : Heap}

theorem Cx.Ok.nofr (ok : X.Ok) {b : Addr} {o : Obj} (e : X.base.get? b = some o) : b ∉ X.fs := fun hb => by
  have := (ok.funs.mem hb).1
  rw [e] at this; cases this
theorem Inv.bs (I : Inv X pins σ H s) : ∀ b o, X.base.get? b = some o → s.heap.get? b = some o ∧ H b = none := fun b o e =>
  ⟨I.base.keep b o (I.ok.bs b o e).1 (I.ok.bs b o e).2 (I.ok.nofr e) (I.ok.noex b o e), I.base.free b o (I.ok.bs b o e).1 (I.ok.bs b o e).2 (I.ok.noex b o e)⟩
theorem Inv.bk (I : Inv X pins σ H s) : ∀ b o, X.base.get? b = some o → s.heap.get? b = some o := fun b o e => (I.bs b o e).1
theorem Inv.mod (I : Inv X pins σ H s) : Mod X.K X.mg X.base := I.ok.mod
theorem Inv.kIn (I : Inv X pins σ H s) : X.K.In s.heap := I.ok.mod.kin.keeps I.bk
theorem Inv.lt (I : Inv X pins σ H s) : X.env.locals < s.heap.objs.size := let ⟨_, hn, _⟩ := I.loc; hn.lt
theorem Inv.sz (I : Inv X pins σ H s) : X.s₀.heap.objs.size ≤ s.heap.objs.size := Nat.le_trans I.ok.above (Nat.le_of_lt I.lt)
theorem Inv.nofs (I : Inv X pins σ H s) {a : Addr} (h : s.heap.objs.size ≤ a) : a ∉ X.fs := fun hb => by
  obtain ⟨_, o, ho, _⟩ := I.ok.funs.mem hb
  exact absurd (Nat.lt_of_lt_of_le (Heap.lt_size ho) (Nat.le_trans I.sz h)) (Nat.lt_irrefl _)
theorem Inv.cne (I : Inv X pins σ H s) : ∀ x c, X.env.cells.lookup x = some c → c ≠ X.env.locals := fun x c e z => by
  obtain ⟨v, o, ho, hd⟩ := I.cell x c e
  obtain ⟨m, ⟨o', es, ep, ho', hd', _⟩, _⟩ := I.loc
  rw [z, ho'] at ho; cases ho; rw [hd'] at hd; cases hd
theorem Inv.funs (I : Inv X pins σ H s) : s.heap.FunFrames X.base X.outer := by
  have all : ∀ (l : List Env), (∀ b ∈ frs l, b ∈ X.fs) → X.s₀.heap.FunFrames X.base l → s.heap.FunFrames X.base l := by
    intro l
    induction l with
    | nil => intro _ _; trivial
    | cons env r ih =>
      intro hs hl
      obtain ⟨hk, ⟨L, o, hf, hn, ho, hd⟩, hr⟩ := hl
      have hL : L ∈ X.fs := hs L (by unfold frs; rw [List.filterMap_cons, hf]; exact List.mem_cons_self)
      obtain ⟨sl, e⟩ := I.base.slot L o ho (I.ok.frf L hL) hL fun z => I.ok.exfs L z hL
      exact ⟨hk, ⟨L, _, hf, hn, e, hd⟩, ih (fun b hb => hs b (by unfold frs; rw [List.filterMap_cons, hf]; exact List.mem_cons_of_mem _ hb)) hr⟩
  exact all X.outer (fun _ hb => hb) I.ok.funs

/-- the frames that run, for a call -/
theorem Inv.stack (I : Inv X pins σ H s) : s.heap.FunFrames X.base X.stack := by
  rcases I.ok.stk with e | ⟨e, hf⟩
  · rw [e]; exact I.funs
  · rw [e]
    obtain ⟨m, hn, _⟩ := I.loc
    refine .cons (by rw [I.ok.kind]; decide) hf hn ?_ I.funs
    exact Heap.get?_none_of_le (Nat.le_trans I.ok.bsz I.ok.above)
theorem Inv.stkSub (I : Inv X pins σ H s) : ∀ b ∈ frs X.stack, b ∈ X.env.locals :: X.fs := fun b hb => by
  rcases I.ok.stk with e | ⟨e, hf⟩
  · rw [e] at hb; exact List.mem_cons_of_mem _ hb
  · rw [e] at hb
    unfold frs at hb
    rw [List.filterMap_cons, hf] at hb
    exact hb
theorem Inv.stkFree (I : Inv X pins σ H s) : ∀ b ∈ frs X.stack, H b = none := fun b hb => by
  rcases List.mem_cons.mp (I.stkSub b hb) with e | hb
  · rw [e]; exact I.free
  · obtain ⟨_, o, ho, _⟩ := I.ok.funs.mem hb
    exact I.base.free b o ho (I.ok.frf b hb) fun z => I.ok.exfs b z hb

/-- THE STEP: the untracked objects but the frame and the records at ch are kept (the callers' frames up to slots), the frame's map is kept, the new abstract heap is held -/
theorem Inv.step {g' : Array GenState} {t' : Nat} {d' : Drawn} {ch : List Addr} (I : Inv X pins σ H s)
    (hch : ∀ b ∈ ch, (b ∈ X.ex ∨ X.s₀.heap.objs.size ≤ b) ∧ b ≠ X.env.locals ∧ (∀ x c, X.env.cells.lookup x = some c → c ≠ b) ∧ ∀ p ∈ X.pn ++ pins, p.1 ≠ b)
    (keep : ∀ b o, b ≠ X.env.locals → b ∉ X.fs → b ∉ ch → s.heap.get? b = some o → H b = none → h'.get? b = some o)
    (slot : ∀ b o, b ≠ X.env.locals → b ∈ X.fs → b ∉ ch → s.heap.get? b = some o → H b = none → ∃ sl, h'.get? b = some { o with slots := sl }) (free : ∀ b o, b ∉ ch → s.heap.get? b = some o → H b = none → H' b = none)
    (there : ∀ b o, b ∉ ch → s.heap.get? b = some o → ∃ o', h'.get? b = some o')
    (tups : ∀ b xs, H b = some (.tup xs) → H' b = some (.tup xs)) (frzs : ∀ b o u, H b = some (.frz o u) → H' b = some (.frz o u)) (tbls : ∀ b ps, H b = some (.tbl ps) → ∃ more, H' b = some (.tbl (ps ++ more)))
    (ns : ∀ m, s.heap.Ns X.env.locals m → h'.Ns X.env.locals m) (hok : HOk X.prog X.w H' h') (hg : AllBare g') :
    Inv X pins σ H' { s with heap := h', gens := g', drawn := d', toks := t' } := by
  have neL : ∀ b o, X.s₀.heap.get? b = some o → b ≠ X.env.locals := fun b o e => Nat.ne_of_lt (Nat.lt_of_lt_of_le (Heap.lt_size e) I.ok.above)
  have neC : ∀ b o, X.s₀.heap.get? b = some o → b ∉ X.ex → b ∉ ch := fun b o e hx hb => by
    rcases (hch b hb).1 with z | z
    · exact hx z
    · exact absurd (Nat.lt_of_lt_of_le (Heap.lt_size e) z) (Nat.lt_irrefl _)
  have cellK : ∀ x c, X.env.cells.lookup x = some c → ∀ v, s.heap.IsCell c v → h'.IsCell c v := fun x c e v ⟨o, ho, hd⟩ => by
    have nch : c ∉ ch := fun z => (hch c z).2.2.1 x c e rfl
    by_cases hc : c ∈ X.fs
    · obtain ⟨sl, q⟩ := slot c o (I.cne x c e) hc nch ho (I.freeC x c e)
      exact ⟨_, q, hd⟩
    · exact ⟨o, keep c o (I.cne x c e) hc nch ho (I.freeC x c e), hd⟩
  refine ⟨I.ok, I.os, hg, ⟨fun b o e n hb hx => ?_, fun b o e n hb hx => ?_, fun b o e n hx => ?_, fun b o e hx => ?_, fun b xs e => tups b xs (I.base.tups b xs e), fun b o xs e => frzs b o xs (I.base.frzs b o xs e), fun b ps e => ?_⟩, ?_, fun x c e => ?_, ?_, fun x c e => ?_, fun p hp => ?_, hok, I.len⟩
  · exact keep b o (neL b o e) hb (neC b o e hx) (I.base.keep b o e n hb hx) (I.base.free b o e n hx)
  · obtain ⟨sl, e1⟩ := I.base.slot b o e n hb hx
    obtain ⟨sl', e2⟩ := slot b _ (neL b o e) hb (neC b o e hx) e1 (I.base.free b o e n hx)
    exact ⟨sl', e2⟩
  · obtain ⟨o', e1⟩ := I.base.there b o e hx
    exact free b o' (neC b o e hx) e1 (I.base.free b o e n hx)
  · obtain ⟨o', e1⟩ := I.base.there b o e hx
    exact there b o' (neC b o e hx) e1
  · obtain ⟨m1, e1⟩ := I.base.tbls b ps e
    obtain ⟨m2, e2⟩ := tbls b _ e1
    exact ⟨m1 ++ m2, by rw [e2, Array.append_assoc]⟩
  · obtain ⟨m, hn, hl⟩ := I.loc
    refine ⟨m, ns m hn, fun i x v e1 e2 e3 => ?_⟩
    obtain ⟨u, r, l⟩ := hl i x v e1 e2 e3
    refine ⟨u, r, ?_⟩
    rcases l with l | ⟨k, c, e, z⟩
    · exact .inl l
    · exact .inr ⟨k, c, e, cellK x c e _ z⟩
  · obtain ⟨v, z⟩ := I.cell x c e
    exact ⟨v, cellK x c e v z⟩
  · obtain ⟨m, ⟨o, _, _, ho, _⟩, _⟩ := I.loc
    exact free _ o (fun z => (hch _ z).2.1 rfl) ho I.free
  · obtain ⟨v, o, ho, hd⟩ := I.cell x c e
    exact free c o (fun z => (hch c z).2.2.1 x c e rfl) ho (I.freeC x c e)
  · obtain ⟨e, n, ne, nf, d⟩ := I.pin p hp
    have nch : p.1 ∉ ch := fun z => (hch p.1 z).2.2.2 p hp rfl
    exact ⟨keep p.1 p.2 ne nf nch e n, free p.1 p.2 nch e n, ne, nf, d⟩
/-- .. where the frame's own object is kept too -/
theorem Inv.un {t' : Nat} (I : Inv X pins σ H s) (u : Un X.fs [] H H' s.heap h') (hok : HOk X.prog X.w H' h') : Inv X pins σ H' { s with heap := h', toks := t' } := by
  obtain ⟨m, ⟨o, es, ep, ho, r⟩, _⟩ := id I.loc
  obtain ⟨sl, hL⟩ := u.any ho I.free (by simp)
  exact I.step (g' := s.gens) (d' := s.drawn) (ch := []) (fun _ z => nomatch z) (fun b o _ hb _ e n => u.keep b o e n hb (by simp)) (fun b o _ hb _ e n => u.slot b o e n hb (by simp)) (fun b o _ e n => u.free b o e n (by simp)) (fun b o _ e => u.there b o e (by simp)) u.tups u.frzs u.tbls (fun m' hm => by
    obtain ⟨o', es', ep', ho', r'⟩ := hm
    rw [ho] at ho'; cases ho'
    exact ⟨_, es', ep', hL, r'⟩) hok I.bare
/-- behind a call (or a comprehension's block): the slots of this frame may have changed too, the records at ch may have turned -/
theorem Inv.call {g' : Array GenState} {t' : Nat} {d' : Drawn} {ch : List Addr} (I : Inv X pins σ H s) (u : Un (frs X.stack) ch H H' s.heap h') (hok : HOk X.prog X.w H' h') (hg : AllBare g')
    (hch : ∀ b ∈ ch, (b ∈ X.ex ∨ X.s₀.heap.objs.size ≤ b) ∧ b ≠ X.env.locals ∧ (∀ x c, X.env.cells.lookup x = some c → c ≠ b) ∧ ∀ p ∈ X.pn ++ pins, p.1 ≠ b) :
    Inv X pins σ H' { s with heap := h', gens := g', drawn := d', toks := t' } := by
  obtain ⟨m, ⟨o, es, ep, ho, r⟩, _⟩ := id I.loc
  obtain ⟨sl, hL⟩ := u.any ho I.free fun z => (hch _ z).2.1 rfl
  exact I.step (ch := ch) hch (fun b o hL hb hc e n => u.keep b o e n (fun z => (List.mem_cons.mp (I.stkSub b z)).elim hL hb) hc) (fun b o _ _ hc e n => u.any e n hc) (fun b o hc e n => u.free b o e n hc) (fun b o hc e => u.there b o e hc) u.tups u.frzs u.tbls (fun m' hm => by
    obtain ⟨o', es', ep', ho', r'⟩ := hm
    rw [ho] at ho'; cases ho'
    exact ⟨_, es', ep', hL, r'⟩) hok hg
/-- an untracked record of ours (an iterator) has turned -/
theorem Inv.turned {t' : Nat} {it : Addr} (I : Inv X pins σ H s) (k : ∀ b o, b ≠ it → s.heap.get? b = some o → h'.get? b = some o) (hn : H it = none) (hL : it ≠ X.env.locals)
    (h1 : it ∈ X.ex ∨ X.s₀.heap.objs.size ≤ it) (h2 : ∀ x c, X.env.cells.lookup x = some c → c ≠ it) (h3 : ∀ p ∈ X.pn ++ pins, p.1 ≠ it) : Inv X pins σ H { s with heap := h', toks := t' } := by
  have nit : ∀ b u, H b = some u → b ≠ it := fun b u e z => by rw [z, hn] at e; cases e
  refine I.step (g' := s.gens) (d' := s.drawn) (ch := [it]) (fun b hb => ?_) (fun b o _ _ hc e _ => k b o (fun z => hc (by simp [z])) e) (fun b o _ _ hc e _ => ⟨o.slots, k b o (fun z => hc (by simp [z])) e⟩) (fun _ _ _ _ n => n)
    (fun b o hc e => ⟨o, k b o (fun z => hc (by simp [z])) e⟩) (fun _ _ e => e) (fun _ _ _ e => e) (fun b ps e => ⟨#[], by rw [e]; simp⟩) (fun m hm => ?_) (fun b u e => ?_) I.bare
  · have e : b = it := by simpa using hb
    subst e
    exact ⟨h1, hL, h2, h3⟩
  · obtain ⟨o, es, ep, ho, r⟩ := hm
    exact ⟨o, es, ep, k _ o (Ne.symm hL) ho, r⟩
  · refine (I.hok b u e).stay (fun c v hc q => k c v ?_ q) (fun _ q => q) fun _ _ q => q
    rcases hc with z | z
    · rw [z]; exact nit b u e
    · exact nit c _ z
theorem Inv.tok (I : Inv X pins σ H s) (t : Nat) : Inv X pins σ H { s with toks := t } := I.un (h' := s.heap) (t' := t) Un.refl I.hok
/-- all objects kept -/
theorem Inv.kept {t' : Nat} (I : Inv X pins σ H s) (k : ∀ b u, s.heap.get? b = some u → h'.get? b = some u) : Inv X pins σ H { s with heap := h', toks := t' } := I.un (Un.kept k) (I.hok.kept k)
/-- a new object laid and tracked -/
theorem Inv.laid {a : Addr} {o : HO} {t' : Nat} (I : Inv X pins σ H s) (k : ∀ b u, s.heap.get? b = some u → h'.get? b = some u) (hp : s.heap.objs.size ≤ a) (new : ObjOk X.prog X.w (upd H a o) h' a o) :
    Inv X pins σ (upd H a o) { s with heap := h', toks := t' } := I.un (Un.laid k hp (I.hok.fresh hp)) (I.hok.laid k hp new)
/-- an object written -/
theorem Inv.write {x e : Addr} {o : HO} {t' : Nat} (I : Inv X pins σ H s) (mu : Mut (H x)) (he : e = x ∨ H e = some (.own x)) (k : ∀ b u, b ≠ e → s.heap.get? b = some u → h'.get? b = some u) (heo : ∃ u, h'.get? e = some u)
    (new : ObjOk X.prog X.w (upd H x o) h' x o) : Inv X pins σ (upd H x o) { s with heap := h', toks := t' } := I.un (Un.write mu he k heo) (I.hok.write mu he k heo new)
/-- forgetting slots, pins -/
theorem Inv.weak {σ' : List (Option V)} (I : Inv X pins σ H s) (hl : σ'.length = σ.length) (w : ∀ (i : Nat) v, σ'[i]? = some (some v) → σ[i]? = some (some v)) : Inv X pins σ' H s :=
  ⟨I.ok, I.os, I.bare, I.base, let ⟨m, hn, hl'⟩ := I.loc; ⟨m, hn, fun i x v e1 e2 e3 => hl' i x v e1 (w i v e2) e3⟩, I.cell, I.free, I.freeC, I.pin, I.hok, hl.trans I.len⟩
theorem Inv.pins_of {pins' : List (Addr × Obj)} (I : Inv X pins σ H s) (h : ∀ p ∈ pins', s.heap.get? p.1 = some p.2 ∧ H p.1 = none ∧ p.1 ≠ X.env.locals ∧ p.1 ∉ X.fs ∧ ∀ v, p.2.data ≠ .cell v) : Inv X pins' σ H s :=
  ⟨I.ok, I.os, I.bare, I.base, I.loc, I.cell, I.free, I.freeC, fun p hp => (List.mem_append.mp hp).elim (fun z => I.pin p (List.mem_append_left _ z)) (h p), I.hok, I.len⟩

theorem nodup_ix {N : List Str} (hN : N.Nodup) {i j : Nat} {x : Str} (a : N[i]? = some x) (b : N[j]? = some x) : i = j := by
  obtain ⟨h1, e1⟩ := List.getElem?_eq_some_iff.mp a
  obtain ⟨h2, e2⟩ := List.getElem?_eq_some_iff.mp b
  exact (List.getElem_inj hN).mp (e1.trans e2.symm)

/-- a name is stored; what changed -/
theorem store_ok2 {M : Model} {A : Around} {E : Value → Shared → Prop} {i : Nat} {x : Str} {v : V} {u : Value} {Q : Unit → Shared → Prop} (I : Inv X pins σ H s) (hN : X.N.Nodup) (hi : X.N[i]? = some x) (hx : Loc X.env.scope x) (r : RelV v u)
    (h : ∀ s', Inv X pins (σ.set i (some v)) H s' → (∃ a, Heap.SameBut a s.heap s'.heap ∧ (a = X.env.locals ∨ X.env.cells.lookup x = some a)) → Q () s') (hf : X.fn x = true ∨ X.env.scope.names.lookup x = some .local := by first | exact .inl rfl | exact .inr rfl | assumption) : wpAny M A (storeName X.env x u) Q E s := by
  obtain ⟨m, hn, hl⟩ := id I.loc
  have hcls : (X.env.scope.kind == .class || (X.env.scope.kind == .module && X.env.locals != X.env.globals)) = false := by rw [I.ok.kind]; rfl
  have hiσ : i < σ.length := by rw [I.len]; exact (List.getElem?_eq_some_iff.mp hi).1
  have cne := I.cne
  have tracked : ∀ {a : Addr} {h' : Heap}, (∃ o, s.heap.get? a = some o ∧ H a = none) → Heap.SameBut a s.heap h' → HOk X.prog X.w H h' := fun {a h'} ha hs b ob e => by
    obtain ⟨_, _, hfree⟩ := ha
    refine (I.hok b ob e).stay (fun c w' hc q => (hs.2 c ?_).trans q) (fun _ q => q) fun _ _ q => q
    rintro rfl
    rcases hc with rfl | hc
    · rw [hfree] at e; cases e
    · rw [hfree] at hc; cases hc
  rcases hx with hk | hk
  · refine wpAny_storeName_local hk hn (fun h' hn' hs => ?_) hcls
    obtain ⟨oL, _, _, hoL, _⟩ := id hn
    refine h _ ⟨I.ok, I.os, I.bare, ⟨fun b o e n hb hx => ?_, fun b o e n hb hx => ?_, I.base.free, fun b o e hx => ?_, I.base.tups, I.base.frzs, I.base.tbls⟩, ⟨_, hn', fun j y v' e1 e2 e3 => ?_⟩, fun y c e => ?_, I.free, I.freeC, fun p hp => ?_, tracked ⟨oL, hoL, I.free⟩ hs, by simpa using I.len⟩ ⟨_, hs, .inl rfl⟩
    · exact (hs.2 b (Nat.ne_of_lt (Nat.lt_of_lt_of_le (Heap.lt_size e) I.ok.above))).trans (I.base.keep b o e n hb hx)
    · obtain ⟨sl, e1⟩ := I.base.slot b o e n hb hx
      exact ⟨sl, (hs.2 b (Nat.ne_of_lt (Nat.lt_of_lt_of_le (Heap.lt_size e) I.ok.above))).trans e1⟩
    · obtain ⟨o', e1⟩ := I.base.there b o e hx
      exact ⟨o', (hs.2 b (Nat.ne_of_lt (Nat.lt_of_lt_of_le (Heap.lt_size e) I.ok.above))).trans e1⟩
    · by_cases hj : j = i
      · subst hj
        rw [hi] at e1; cases e1
        rw [List.getElem?_set_self hiσ] at e2
        cases e2
        exact ⟨u, r, .inl ⟨hk, by simp⟩⟩
      · rw [List.getElem?_set_ne (Ne.symm hj)] at e2
        obtain ⟨u', r', q⟩ := hl j y v' e1 e2 e3
        refine ⟨u', r', ?_⟩
        rcases q with ⟨k, e⟩ | ⟨k, c, e, z⟩
        · refine .inl ⟨k, ?_⟩
          have : y ≠ x := fun e => hj (nodup_ix hN e1 (e ▸ hi))
          simp [this, e]
        · exact .inr ⟨k, c, e, z.sameBut hs (cne y c e)⟩
    · obtain ⟨w', z⟩ := I.cell y c e
      exact ⟨w', z.sameBut hs (cne y c e)⟩
    · obtain ⟨e, n, ne, nf, d⟩ := I.pin p hp
      exact ⟨(hs.2 p.1 ne).trans e, n, ne, nf, d⟩
  · have hfn : X.fn x = true := by
      rcases hf with z | z
      · exact z
      · rw [z] at hk; cases hk
    obtain ⟨c, hc⟩ := I.ok.has x (.inl hk)
    obtain ⟨w', z⟩ := I.cell x c hc
    refine wpAny_storeName_cell I.ok.kind hk hc z (fun h' hc' hs => ?_)
    obtain ⟨oc, hoc, hocd⟩ := id z
    refine h { s with heap := h' } ⟨I.ok, I.os, I.bare, ⟨fun b o e n hb hx => ?_, fun b o e n hb hx => ?_, I.base.free, fun b o e hx => ?_, I.base.tups, I.base.frzs, I.base.tbls⟩, ⟨m, hn.sameBut hs (Ne.symm (cne x c hc)), fun j y v' e1 e2 e3 => ?_⟩, fun y c' e => ?_, I.free, I.freeC, fun p hp => ?_, tracked ⟨oc, hoc, I.freeC x c hc⟩ hs, by simpa using I.len⟩ ⟨c, hs, .inr hc⟩
    · exact (hs.2 b (Nat.ne_of_lt (Nat.lt_of_lt_of_le (Heap.lt_size e) (I.ok.cab x c hfn hc)))).trans (I.base.keep b o e n hb hx)
    · obtain ⟨sl, e1⟩ := I.base.slot b o e n hb hx
      exact ⟨sl, (hs.2 b (Nat.ne_of_lt (Nat.lt_of_lt_of_le (Heap.lt_size e) (I.ok.cab x c hfn hc)))).trans e1⟩
    · obtain ⟨o', e1⟩ := I.base.there b o e hx
      exact ⟨o', (hs.2 b (Nat.ne_of_lt (Nat.lt_of_lt_of_le (Heap.lt_size e) (I.ok.cab x c hfn hc)))).trans e1⟩
    · by_cases hj : j = i
      · subst hj
        rw [hi] at e1; cases e1
        rw [List.getElem?_set_self hiσ] at e2
        cases e2
        exact ⟨u, r, .inr ⟨.inl hk, c, hc, hc'⟩⟩
      · rw [List.getElem?_set_ne (Ne.symm hj)] at e2
        obtain ⟨u', r', q⟩ := hl j y v' e1 e2 e3
        refine ⟨u', r', ?_⟩
        rcases q with q | ⟨k, c', e, z'⟩
        · exact .inl q
        · refine .inr ⟨k, c', e, z'.sameBut hs ?_⟩
          rintro rfl
          exact hj (nodup_ix hN e1 (I.ok.inj _ _ _ e hc ▸ hi))
    · by_cases hcc : c' = c
      · subst hcc; exact ⟨_, hc'⟩
      · obtain ⟨w2, z2⟩ := I.cell y c' e
        exact ⟨w2, z2.sameBut hs hcc⟩
    · obtain ⟨e, n, ne, nf, d⟩ := I.pin p hp
      refine ⟨(hs.2 p.1 ?_).trans e, n, ne, nf, d⟩
      intro q
      rw [q, hoc] at e
      have q' : oc = p.2 := Option.some.inj e
      exact d w' (by rw [← q']; exact hocd)
theorem store_ok {M : Model} {A : Around} {E : Value → Shared → Prop} {i : Nat} {x : Str} {v : V} {u : Value} {Q : Unit → Shared → Prop} (I : Inv X pins σ H s) (hN : X.N.Nodup) (hi : X.N[i]? = some x) (hx : Loc X.env.scope x) (r : RelV v u)
    (h : ∀ s', Inv X pins (σ.set i (some v)) H s' → Q () s') (hf : X.fn x = true ∨ X.env.scope.names.lookup x = some .local := by first | exact .inl rfl | exact .inr rfl | assumption) : wpAny M A (storeName X.env x u) Q E s :=
  store_ok2 I hN hi hx r (fun s' I' _ => h s' I') hf
/-- behind a call or a block, the state as it is -/
theorem Inv.call' {s' : Shared} {ch : List Addr} (I : Inv X pins σ H s) (ho : s'.os = s.os) (u : Un (frs X.stack) ch H H' s.heap s'.heap) (hok : HOk X.prog X.w H' s'.heap) (hg : AllBare s'.gens)
    (hch : ∀ b ∈ ch, (b ∈ X.ex ∨ X.s₀.heap.objs.size ≤ b) ∧ b ≠ X.env.locals ∧ (∀ x c, X.env.cells.lookup x = some c → c ≠ b) ∧ ∀ p ∈ X.pn ++ pins, p.1 ≠ b) : Inv X pins σ H' s' := by
  obtain ⟨h', g', d', t', o'⟩ := s'
  have e : o' = s.os := ho
  subst e
  exact I.call (g' := g') (t' := t') (d' := d') u hok hg hch
end

/-! ### the judgements -/
/-- an exception: its class, its own dict's address (where it has one), the abstract heap behind it -/
noncomputable abbrev XK := Value → Option Addr → Hp → Prop
noncomputable abbrev St := List (Option V)
noncomputable abbrev VK := V → Hp → Prop
/-- an expression's reading; a test's; an argument list's -/
noncomputable abbrev TE := St → Hp → VK → Prop
noncomputable abbrev TT := St → Hp → (Bool → Hp → Prop) → Prop
noncomputable abbrev TA := St → Hp → (List V → Hp → Prop) → Prop
/-- what is wanted behind a statement -/
structure Ends where
  nx : St → Hp → Prop
  rt : VK
  bk : St → Hp → Prop := fun _ _ => False
  ct : St → Hp → Prop := fun _ _ => False
noncomputable abbrev TS := Ends → St → Hp → Prop

noncomputable def EP (X : Cx) (pins : List (Addr × Obj)) (σ : St) (Q : VK) (u : Value) (s' : Shared) : Prop := ∃ v H', Inv X pins σ H' s' ∧ RelV v u ∧ Q v H'
noncomputable def TP (X : Cx) (pins : List (Addr × Obj)) (σ : St) (Q : Bool → Hp → Prop) (b : Bool) (s' : Shared) : Prop := ∃ H', Inv X pins σ H' s' ∧ Q b H'
noncomputable def AP (X : Cx) (pins : List (Addr × Obj)) (σ : St) (Q : List V → Hp → Prop) (us : List Value) (s' : Shared) : Prop := ∃ vs H', Inv X pins σ H' s' ∧ Vals vs us ∧ Q vs H'
noncomputable def SP (X : Cx) (pins : List (Addr × Obj)) (D : Ends) (f : Flow) (s' : Shared) : Prop :=
  match f with
  | .next => ∃ σ' H', Inv X pins σ' H' s' ∧ D.nx σ' H'
  | .brk => ∃ σ' H', Inv X pins σ' H' s' ∧ D.bk σ' H'
  | .cont => ∃ σ' H', Inv X pins σ' H' s' ∧ D.ct σ' H'
  | .ret u => ∃ v σ' H', Inv X pins σ' H' s' ∧ RelV v u ∧ D.rt v H'

noncomputable def PE (X : Cx) (e : Expr) (t : TE) : Prop :=
  ∀ (pins : List (Addr × Obj)) (s : Shared) (σ : St) (H : Hp) (Q : VK), Inv X pins σ H s → t σ H Q → wpAny (model X.prog X.w) X.A (eval e X.env) (EP X pins σ Q) X.xe s
noncomputable def PT (X : Cx) (e : Expr) (t : TT) : Prop :=
  ∀ (pins : List (Addr × Obj)) (s : Shared) (σ : St) (H : Hp) (Q : Bool → Hp → Prop), Inv X pins σ H s → t σ H Q → wpAny (model X.prog X.w) X.A (isTrue e X.env (eval e X.env)) (TP X pins σ Q) X.xe s
/-- a test whatever its 'whole' is (and, or) -/
noncomputable def PW (X : Cx) (e : Expr) (t : TT) : Prop :=
  ∀ (whole : Sem Value) (pins : List (Addr × Obj)) (s : Shared) (σ : St) (H : Hp) (Q : Bool → Hp → Prop), Inv X pins σ H s → t σ H Q → wpAny (model X.prog X.w) X.A (isTrue e X.env whole) (TP X pins σ Q) X.xe s
theorem PW.pt {X : Cx} {e : Expr} {t : TT} (h : PW X e t) : PT X e t := h _
/-- an argument list (no star), from the left -/
noncomputable def PA (X : Cx) (es : List Expr) (t : TA) : Prop :=
  ∀ (pos : Pos) (pins : List (Addr × Obj)) (s : Shared) (σ : St) (H : Hp) (Q : List V → Hp → Prop), Inv X pins σ H s → t σ H Q → wpAny (model X.prog X.w) X.A (spliced (backTo pos (starEach es X.env))) (AP X pins σ Q) X.xe s
noncomputable def PS (X : Cx) (st : Stmt) (t : TS) : Prop :=
  ∀ (pins : List (Addr × Obj)) (s : Shared) (σ : St) (H : Hp) (D : Ends), Inv X pins σ H s → t D σ H → wpAny (model X.prog X.w) X.A (exec st X.env) (SP X pins D) X.xe s
noncomputable def PSs (X : Cx) (st : List Stmt) (t : TS) : Prop :=
  ∀ (pins : List (Addr × Obj)) (s : Shared) (σ : St) (H : Hp) (D : Ends), Inv X pins σ H s → t D σ H → wpAny (model X.prog X.w) X.A (execs st X.env) (SP X pins D) X.xe s
/-- weaken the end -/
theorem thn {α : Type} {t : Sem α} {Q Q' : α → Shared → Prop} {M : Model} {A : Around} {E : Value → Shared → Prop} {s : Shared} (h : wpAny M A t Q E s) (hQ : ∀ a s, Q a s → Q' a s) : wpAny M A t Q' E s := wpAny_mono h hQ fun _ _ x => x
end L2

namespace L2
open PySem PySem.Spec PyProof.Rows
section
variable {X : Cx}

/-! ### names and constants -/
noncomputable def tVar (i : Nat) : TE := fun σ H Q => ∃ v, σ[i]? = some (some v) ∧ Q v H
noncomputable def tC (v : V) : TE := fun _ H Q => Q v H
theorem pe_var {i : Nat} {x : Str} {pos : Pos} (hN : X.N[i]? = some x) (hv : Vis X.env.scope x) (hd : (x == ("__debug__" : Str)) = false := by decide) (hcd : (x == ("__classdict__" : Str)) = false := by decide) : PE X (.Name x pos) (tVar i) := by
  intro pins s σ H Q I h
  obtain ⟨v, e, h⟩ := h
  obtain ⟨m, hn, hl⟩ := I.loc
  obtain ⟨u, r, l⟩ := hl i x v hN e hv
  have fin : EP X pins σ Q u s := ⟨v, H, I, r, h⟩
  rcases l with ⟨hk, hm⟩ | ⟨hk, c, hc, hcell⟩
  · exact wpAny_Name (wpAny_loadName_local I.ok.kind hk hn hm fin) hd
  · rcases hk with hk | hk
    · exact wpAny_Name (wpAny_loadName_cell I.ok.kind hk hc hcell fin) hd
    · exact wpAny_Name (wpAny_loadName_free I.ok.kind hk hc hcell fin hcd) hd
theorem pe_int {i j pos} : PE X (.Constant (.int i) j pos) (tC (.int i)) := fun _ _ _ H _ I h => wpAny_Constant_int ⟨.int i, H, I.tok _, ⟨_, rfl⟩, h⟩
theorem pe_bl {b j pos} : PE X (.Constant (.bool b) j pos) (tC (.bl b)) := fun _ _ _ H _ I h => Constant_bool ⟨.bl b, H, I, rfl, h⟩
theorem pe_non {j pos} : PE X (.Constant .none j pos) (tC .non) := fun _ _ _ H _ I h => Constant_none ⟨.non, H, I, rfl, h⟩
theorem pe_str {x j pos} : PE X (.Constant (.str x) j pos) (tC (.str x)) := fun _ _ _ H _ I h => Calls.Constant_str ⟨.str x, H, I.tok _, ⟨_, rfl⟩, h⟩

/-- a global name of the def -/
noncomputable def Gl (X : Cx) (x : Str) : Prop := X.env.kindOf x = some .globalImplicit
theorem ld_glob {E : Value → Shared → Prop} {pins : List (Addr × Obj)} {s : Shared} {σ : St} {H : Hp} {x : Str} {u : Value} {pos : Pos} {Q : Value → Shared → Prop} (I : Inv X pins σ H s) (hg : Gl X x) (hm : X.mg x = some u) (h : Q u s)
    (hd : (x == ("__debug__" : Str)) = false := by decide) : wpAny (model X.prog X.w) X.A (eval (.Name x pos) X.env) Q E s :=
  Calls.Name_function_global I.ok.kind hg (Calls.loadGlobal_global (by rw [I.ok.glob]; exact I.mod.glob.keeps I.bk) hm h) hd
theorem ld_blt {E : Value → Shared → Prop} {pins : List (Addr × Obj)} {s : Shared} {σ : St} {H : Hp} {x : Str} {u : Value} {pos : Pos} {Q : Value → Shared → Prop} (I : Inv X pins σ H s) (hg : Gl X x) (hm : X.mg x = none) (hv : bootBuiltins x = some u) (h : Q u s)
    (hn : x ≠ "__name__" := by decide) (hd : (x == ("__debug__" : Str)) = false := by decide) : wpAny (model X.prog X.w) X.A (eval (.Name x pos) X.env) Q E s := by
  obtain ⟨mb, h1, h2⟩ := I.mod.blt
  exact Calls.Name_function_global I.ok.kind hg (Calls.loadGlobal_builtin (by rw [I.ok.glob]; exact I.mod.glob.keeps I.bk) hm (by rw [I.ok.blt]; exact h1.keeps I.bk) ((h2 x hn).trans hv) h) hd
theorem pe_bltn {x : Str} {v : V} {u : Value} {pos : Pos} (hg : Gl X x) (hm : X.mg x = none) (hv : bootBuiltins x = some u) (r : RelV v u) (hn : x ≠ "__name__" := by decide) (hd : (x == ("__debug__" : Str)) = false := by decide) : PE X (.Name x pos) (tC v) :=
  fun _ _ _ H _ I h => ld_blt I hg hm hv ⟨v, H, I, r, h⟩ hn hd

/-! ### arithmetic -/
variable {a b : Expr} {ta tb : TE} {pos : Pos}
/-! ### comparisons -/
noncomputable def PC (X : Cx) (op : CmpOp) (a b : Expr) (t : TE) : Prop :=
  ∀ (pins : List (Addr × Obj)) (s : Shared) (σ : St) (H : Hp) (Q : VK), Inv X pins σ H s → t σ H Q →
    wpAny (model X.prog X.w) X.A (eval a X.env) (fun v s₁ => wpAny (model X.prog X.w) X.A (eval b X.env) (fun u s₂ => wpAny (model X.prog X.w) X.A (compareOp op v u) (EP X pins σ Q) X.xe s₂) X.xe s₁) X.xe s
/-- a comparison as a value, as a test -/
noncomputable def tB (t : TE) : TT := fun σ H Q => t σ H fun x H1 => ∃ c, x = .bl c ∧ Q c H1
theorem pt_cmp {op : CmpOp} {t : TE} (h : PC X op a b t) (h1 : behindInMarks op b = false := by first | exact nobehind _ (by decide) (by decide) | rfl) : PT X (.Compare a [op] [b] pos) (tB t) := by
  intro pins s σ H Q I hw
  refine wpAny_isTrue_Compare1 (thn (h pins s σ H _ I hw) fun v s1 h1 => thn h1 fun u s2 h2 => thn h2 fun c s3 ⟨x, H1, I1, r1, q1⟩ => ?_) h1
  obtain ⟨d, rfl, q⟩ := q1
  cases r1
  exact wpAny_truthy_bool ⟨H1, I1, q⟩
/-- an expression whose value is a bool, as a test -/
theorem pt_val {e : Expr} {t : TE} (h : PE X e t) (he : ∀ whole, isTrue e X.env whole = (do let v ← whole; standAt e.pos; holding [v] (truthy v)) := by intro _; rfl) : PT X e (tB t) := by
  intro pins s σ H Q I hw
  refine isTrue_plain (thn (h pins s σ H _ I hw) fun v s1 ⟨x, H1, I1, r1, q1⟩ => ?_) (he _)
  obtain ⟨d, rfl, q⟩ := q1
  cases r1
  exact wpAny_truthy_bool ⟨H1, I1, q⟩

/-! ### and, or, not -/
variable {tA tB' : TT} {rest : List Expr}
noncomputable def tAnd (t u : TT) : TT := fun σ H Q => t σ H fun c H1 => if c = true then u σ H1 Q else Q false H1
noncomputable def tOr (t u : TT) : TT := fun σ H Q => t σ H fun c H1 => if c = true then Q true H1 else u σ H1 Q
noncomputable def tNot (t : TT) : TT := fun σ H Q => t σ H fun c H1 => Q (!c) H1
theorem pw_and1 (ha : PT X a tA) : PW X (.BoolOp .And [a] pos) tA := by
  intro wh pins s σ H Q I h
  refine isTrue_and (thn (ha pins s σ H Q I h) fun c s1 e => ?_)
  cases c with
  | true => exact isTrue_and_nil e
  | false => exact e
theorem pw_or1 (ha : PT X a tA) : PW X (.BoolOp .Or [a] pos) tA := by
  intro wh pins s σ H Q I h
  refine isTrue_or (thn (ha pins s σ H Q I h) fun c s1 e => ?_)
  cases c with
  | false => exact isTrue_or_nil e
  | true => exact e
theorem pw_and (ha : PT X a tA) (hb : PW X (.BoolOp .And (b :: rest) pos) tB') : PW X (.BoolOp .And (a :: b :: rest) pos) (tAnd tA tB') := by
  intro wh pins s σ H Q I h
  refine isTrue_and (thn (ha pins s σ H _ I h) fun c s1 ⟨H1, I1, q1⟩ => ?_)
  cases c with
  | true => exact hb wh pins s1 σ H1 Q I1 q1
  | false => exact ⟨H1, I1, q1⟩
theorem pw_or (ha : PT X a tA) (hb : PW X (.BoolOp .Or (b :: rest) pos) tB') : PW X (.BoolOp .Or (a :: b :: rest) pos) (tOr tA tB') := by
  intro wh pins s σ H Q I h
  refine isTrue_or (thn (ha pins s σ H _ I h) fun c s1 ⟨H1, I1, q1⟩ => ?_)
  cases c with
  | true => exact ⟨H1, I1, q1⟩
  | false => exact hb wh pins s1 σ H1 Q I1 q1
theorem pt_not (ha : PT X a tA) : PT X (.UnaryOp .Not a pos) (tNot tA) := by
  intro pins s σ H Q I h
  exact isTrue_not (ha pins s σ H (fun c H1 => Q (!c) H1) I h)
/-- .. as values (bools) -/
noncomputable def tAndV (ta tb : TE) : TE := fun σ H Q => ta σ H fun x H1 => ∃ c, x = .bl c ∧ if c = true then tb σ H1 Q else Q (.bl false) H1
noncomputable def tOrV (ta tb : TE) : TE := fun σ H Q => ta σ H fun x H1 => ∃ c, x = .bl c ∧ if c = true then Q (.bl true) H1 else tb σ H1 Q
noncomputable def tNotV (ta : TE) : TE := fun σ H Q => ta σ H fun x H1 => ∃ c, x = .bl c ∧ Q (.bl (!c)) H1
theorem pe_one {op} {t : TE} (h : PE X a t) : PE X (.BoolOp op [a] pos) t := fun pins s σ H Q I hw => BoolOp_one (h pins s σ H Q I hw)
theorem pe_and (ha : PE X a ta) (hb : PE X (.BoolOp .And (b :: rest) pos) tb) : PE X (.BoolOp .And (a :: b :: rest) pos) (tAndV ta tb) := by
  intro pins s σ H Q I h
  refine BoolOp_and (thn (ha pins s σ H _ I h) fun v s1 ⟨x, H1, I1, r1, q1⟩ => ?_)
  obtain ⟨c, rfl, q1⟩ := q1
  cases r1
  refine wpAny_truthy_bool ?_
  cases c with
  | true => exact hb pins s1 σ H1 Q I1 q1
  | false => exact ⟨.bl false, H1, I1, rfl, q1⟩
theorem pe_or (ha : PE X a ta) (hb : PE X (.BoolOp .Or (b :: rest) pos) tb) : PE X (.BoolOp .Or (a :: b :: rest) pos) (tOrV ta tb) := by
  intro pins s σ H Q I h
  refine BoolOp_or (thn (ha pins s σ H _ I h) fun v s1 ⟨x, H1, I1, r1, q1⟩ => ?_)
  obtain ⟨c, rfl, q1⟩ := q1
  cases r1
  refine wpAny_truthy_bool ?_
  cases c with
  | false => exact hb pins s1 σ H1 Q I1 q1
  | true => exact ⟨.bl true, H1, I1, rfl, q1⟩
theorem pe_not (ha : PE X a ta) : PE X (.UnaryOp .Not a pos) (tNotV ta) := by
  intro pins s σ H Q I h
  refine UnaryOp_ (thn (ha pins s σ H _ I h) fun v s1 ⟨x, H1, I1, r1, q1⟩ => ?_)
  obtain ⟨c, rfl, q1⟩ := q1
  cases r1
  exact not_of (wpAny_truthy_bool ⟨.bl (!c), H1, I1, rfl, q1⟩)
end
end L2

namespace L2
open PySem PySem.Spec PyProof.Rows

/-! ### a list, a tuple that is read: tracked, frozen, or an object of the module -/
noncomputable def SqL (K : PySem.W.Frag) (H : Hp) (a : Addr) (xs : List V) : Prop :=
  Rd H a (.lst xs) ∨
    ∃ (o : Obj) (its : Array Value) (n : Nat), K.lookup a = some o ∧ o.cls = .type "list" ∧ o.dict = none ∧ o.data = .seq its n ∧ its.size ≤ sizeLine ∧ Vals xs its.toList
noncomputable def SqT (K : PySem.W.Frag) (H : Hp) (a : Addr) (xs : List V) : Prop :=
  Rd H a (.tup xs) ∨
    ∃ (o : Obj) (its : Array Value) (n : Nat), K.lookup a = some o ∧ o.cls = .type "tuple" ∧ o.data = .seq its n ∧ its.size ≤ sizeLine ∧ Vals xs its.toList
noncomputable def absV : Value → Option V
  | .none => some .non
  | .bool b => some (.bl b)
  | .int i _ => some (.int i)
  | .str x _ => some (.str x)
  | .bytes b _ => some (.byt b)
  | .float b _ => some (.flt b)
  | .ref a => some (.ref a)
  | .type n => some (.ty n)
  | _ => none
theorem RelV.abs {x : V} {u : Value} (r : RelV x u) : absV u = some x := by
  cases x with
  | non => cases r; rfl
  | bl _ => cases r; rfl
  | int _ => obtain ⟨t, rfl⟩ := r; rfl
  | str _ => obtain ⟨t, rfl⟩ := r; rfl
  | byt _ => obtain ⟨t, rfl⟩ := r; rfl
  | flt _ => obtain ⟨t, rfl⟩ := r; rfl
  | ref _ => cases r; rfl
  | ty _ => cases r; rfl
theorem RelV.inj {x y : V} {u : Value} (r : RelV x u) (q : RelV y u) : x = y := Option.some.inj (r.abs.symm.trans q.abs)
theorem Vals.inj : ∀ {xs ys : List V} {us : List Value}, Vals xs us → Vals ys us → xs = ys
  | _, _, _, .nil, .nil => rfl
  | _, _, _, .cons r t, .cons r' t' => by rw [r.inj r', Vals.inj t t']
section
variable {X : Cx} {pins : List (Addr × Obj)} {σ : St} {H : Hp} {s : Shared} {a : Addr} {xs ys : List V}
theorem SqL.of {K : PySem.W.Frag} (h : H a = some (.lst xs)) : SqL K H a xs := .inl (.inl h)
theorem SqT.of {K : PySem.W.Frag} (h : H a = some (.tup xs)) : SqT K H a xs := .inl (.inl h)
theorem Inv.list (I : Inv X pins σ H s) (h : SqL X.K H a xs) : ∃ its : List Value, Vals xs its ∧ PlainL s.heap a its.toArray ∧ xs.length ≤ sizeLine := by
  rcases h with h | ⟨o, its, n, hk, hc, hd, hs, hz, r⟩
  · obtain ⟨z, its, n, r, e⟩ := h.ok I.hok
    exact ⟨its, r, ⟨_, n, e, rfl, rfl, rfl⟩, z⟩
  · refine ⟨its.toList, r, ⟨o, n, I.kIn a o hk, hc, hd, by simpa using hs⟩, ?_⟩
    have e := r.length
    simp only [Array.length_toList] at e
    omega
theorem Inv.tuple (I : Inv X pins σ H s) (h : SqT X.K H a xs) : ∃ its : List Value, Vals xs its ∧ IsTup s.heap a its.toArray ∧ xs.length ≤ sizeLine := by
  rcases h with h | ⟨o, its, n, hk, hc, hs, hz, r⟩
  · obtain ⟨z, its, r, p⟩ := h.ok I.hok
    exact ⟨its, r, p, z⟩
  · refine ⟨its.toList, r, ⟨o, I.kIn a o hk, hc, n, by simpa using hs⟩, ?_⟩
    have e := r.length
    simp only [Array.length_toList] at e
    omega
theorem Inv.list_inj (I : Inv X pins σ H s) (h : SqL X.K H a xs) (h' : SqL X.K H a ys) : xs = ys := by
  obtain ⟨its, r, ⟨o, n, e, _, _, d⟩, _⟩ := I.list h
  obtain ⟨its', r', ⟨o', n', e', _, _, d'⟩, _⟩ := I.list h'
  rw [e] at e'; cases e'
  rw [d] at d'
  injection d' with d1 _
  have : its = its' := by simpa using congrArg Array.toList d1
  subst this
  exact r.inj r'
theorem Inv.tuple_inj (I : Inv X pins σ H s) (h : SqT X.K H a xs) (h' : SqT X.K H a ys) : xs = ys := by
  obtain ⟨its, r, ⟨o, e, _, n, d⟩, _⟩ := I.tuple h
  obtain ⟨its', r', ⟨o', e', _, n', d'⟩, _⟩ := I.tuple h'
  rw [e] at e'; cases e'
  rw [d] at d'
  injection d' with d1 _
  have : its = its' := by simpa using congrArg Array.toList d1
  subst this
  exact r.inj r'
end

/-! ### another wish about exceptions -/
noncomputable abbrev Cx.wish (X : Cx) (E : Value → Shared → Prop) : Cx := { X with xe := E }
/-- no exception leaves -/
noncomputable abbrev Cx.nox (X : Cx) : Cx := X.wish fun _ _ => False
theorem Cx.Ok.wish {X : Cx} (ok : X.Ok) (E : Value → Shared → Prop) : (X.wish E).Ok :=
  ⟨ok.mod, ok.kind, ok.glob, ok.blt, ok.above, ok.inj, ok.has, ok.cab, ok.hd, ok.frames, ok.stk, ok.exf, ok.bs, ok.bsz, ok.noex, ok.exfs, ok.funs, ok.frf⟩
theorem Cx.Ok.unwish {X : Cx} {E : Value → Shared → Prop} (ok : (X.wish E).Ok) : X.Ok :=
  ⟨ok.mod, ok.kind, ok.glob, ok.blt, ok.above, ok.inj, ok.has, ok.cab, ok.hd, ok.frames, ok.stk, ok.exf, ok.bs, ok.bsz, ok.noex, ok.exfs, ok.funs, ok.frf⟩
section
variable {X : Cx} {pins : List (Addr × Obj)} {σ : St} {H : Hp} {s : Shared} {E : Value → Shared → Prop}
theorem Inv.wish (I : Inv X pins σ H s) (E : Value → Shared → Prop) : Inv (X.wish E) pins σ H s := ⟨I.ok.wish E, I.os, I.bare, I.base, I.loc, I.cell, I.free, I.freeC, I.pin, I.hok, I.len⟩
theorem Inv.unwish (I : Inv (X.wish E) pins σ H s) : Inv X pins σ H s := ⟨I.ok.unwish, I.os, I.bare, I.base, I.loc, I.cell, I.free, I.freeC, I.pin, I.hok, I.len⟩
theorem SP.unwish {D : Ends} {f : Flow} {s' : Shared} (h : SP (X.wish E) pins D f s') : SP X pins D f s' := by
  cases f with
  | next => obtain ⟨σ', H', I, q⟩ := h; exact ⟨σ', H', I.unwish, q⟩
  | brk => obtain ⟨σ', H', I, q⟩ := h; exact ⟨σ', H', I.unwish, q⟩
  | cont => obtain ⟨σ', H', I, q⟩ := h; exact ⟨σ', H', I.unwish, q⟩
  | ret u => obtain ⟨v, σ', H', I, r, q⟩ := h; exact ⟨v, σ', H', I.unwish, r, q⟩
theorem PSs.nox {st : List Stmt} {t : TS} (h : PSs X.nox st t) : PSs X st t := fun pins s σ H D I hw =>
  wpAny_mono (h pins s σ H D (I.wish _) hw) (fun _ _ q => q.unwish) fun _ _ z => False.elim z
end

/-! ### blocks and small statements -/
section
variable {X : Cx} {st : Stmt} {rest : List Stmt} {t u : TS} {e : Expr} {te : TE} {pos : Pos}
noncomputable def tNext : TS := fun D σ H => D.nx σ H
noncomputable def tSeq (t u : TS) : TS := fun D σ H => t { D with nx := u D } σ H
theorem pss_nil : PSs X [] tNext := fun _ _ σ H _ I h => wpAny_execs_nil ⟨σ, H, I, h⟩
theorem pss_cons (h1 : PS X st t) (h2 : PSs X rest u) : PSs X (st :: rest) (tSeq t u) := by
  intro pins s σ H D I h
  refine wpAny_execs_cons (thn (h1 pins s σ H { D with nx := u D } I h) fun f s1 q => ?_)
  cases f with
  | next =>
    obtain ⟨σ', H', I', q⟩ := q
    exact h2 pins s1 σ' H' D I' q
  | ret v => exact q
  | brk => exact q
  | cont => exact q
theorem pss_one (h1 : PS X st t) : PSs X [st] t := by
  intro pins s σ H D I h
  refine wpAny_execs_cons (thn (h1 pins s σ H D I h) fun f s1 q => ?_)
  cases f with
  | next => exact wpAny_execs_nil q
  | ret v => exact q
  | brk => exact q
  | cont => exact q
/-- in a def's body nothing is shown -/
theorem Inv.quiet {pins : List (Addr × Obj)} {σ : St} {H : Hp} {s : Shared} (I : Inv X pins σ H s) : interactive X.env = false := by simp [interactive, I.ok.kind]
/-- an expression whose value is dropped -/
noncomputable def tDrop (te : TE) : TS := fun D σ H => te σ H fun _ H1 => D.nx σ H1
theorem ps_expr (he : PE X e te) (hs : swapsWith e none pos.line X.env = pure false := by rfl) : PS X (.Expr e pos) (tDrop te) := by
  intro pins s σ H D I h
  exact wpAny_Expr_any (thn (he pins s σ H _ I h) fun v s1 ⟨x, H1, I1, r1, q1⟩ => ⟨σ, H1, I1, q1⟩) I.quiet hs
noncomputable def tRet (te : TE) : TS := fun D σ H => te σ H D.rt
theorem ps_ret (he : PE X e te) : PS X (.Return (some e) pos) (tRet te) := by
  intro pins s σ H D I h
  exact wpAny_Return_some (thn (he pins s σ H _ I h) fun v s1 ⟨x, H1, I1, r1, q1⟩ => ⟨x, σ, H1, I1, r1, q1⟩)
noncomputable def tIfS (c : TT) (t u : TS) : TS := fun D σ H => c σ H fun b H1 => if b = true then t D σ H1 else u D σ H1
theorem ps_if {c : Expr} {a b : List Stmt} {tc : TT} (hc : PT X c tc) (ha : PSs X a t) (hb : PSs X b u) : PS X (.If c a b pos) (tIfS tc t u) := by
  intro pins s σ H D I h
  refine wpAny_If (thn (hc pins s σ H _ I h) fun d s1 ⟨H1, I1, q1⟩ => ?_)
  cases d with
  | true => exact ha pins s1 σ H1 D I1 q1
  | false => exact hb pins s1 σ H1 D I1 q1
end

/-! ### targets -/
noncomputable abbrev TG := V → St → Hp → (St → Hp → Prop) → Prop
noncomputable abbrev TGs := List V → St → Hp → (St → Hp → Prop) → Prop
noncomputable def PG (X : Cx) (target : Expr) (t : TG) : Prop :=
  ∀ (pins : List (Addr × Obj)) (s : Shared) (σ : St) (H : Hp) (v : V) (u : Value) (Q : St → Hp → Prop), Inv X pins σ H s → RelV v u → t v σ H Q →
    wpAny (model X.prog X.w) X.A (assign target X.env u) (fun _ s' => ∃ σ' H', Inv X pins σ' H' s' ∧ Q σ' H') X.xe s
/-- several targets, one after another -/
noncomputable def PGs (X : Cx) (ts : List Expr) (t : TGs) : Prop :=
  ∀ (pins : List (Addr × Obj)) (s : Shared) (σ : St) (H : Hp) (vs : List V) (us : List Value) (Q : St → Hp → Prop), Inv X pins σ H s → Vals vs us → t vs σ H Q →
    wpAny (model X.prog X.w) X.A (assignInOrder ((assignEach ts X.env).map (·.2)) us) (fun _ s' => ∃ σ' H', Inv X pins σ' H' s' ∧ Q σ' H') X.xe s
/-- o[i] = v, by values -/
noncomputable abbrev TSet := V → V → V → Hp → (Hp → Prop) → Prop
noncomputable def PSet (X : Cx) (t : TSet) : Prop :=
  ∀ (pins : List (Addr × Obj)) (s : Shared) (σ : St) (H : Hp) (o i v : V) (ov iv u : Value) (Q : Hp → Prop), Inv X pins σ H s → RelV o ov → RelV i iv → RelV v u → t o i v H Q →
    wpAny (model X.prog X.w) X.A (setItem ov iv u) (fun _ s' => ∃ H', Inv X pins σ H' s' ∧ Q H') X.xe s
section
variable {X : Cx} {pos : Pos}
noncomputable def gName (i : Nat) : TG := fun v σ H Q => Q (σ.set i (some v)) H
theorem pg_name {i : Nat} {x : Str} (hN : X.N.Nodup) (hi : X.N[i]? = some x) (hx : Loc X.env.scope x) (hf : X.fn x = true ∨ X.env.scope.names.lookup x = some .local := by first | exact .inl rfl | exact .inr rfl | assumption) : PG X (.Name x pos) (gName i) := by
  intro pins s σ H v u Q I r h
  exact wpAny_assign_Name (store_ok I hN hi hx r (fun s' I' => ⟨_, H, I', h⟩) hf)
noncomputable def gNil : TGs := fun vs σ H Q => vs = [] ∧ Q σ H
noncomputable def gCons (t : TG) (u : TGs) : TGs := fun vs σ H Q => ∃ v r, vs = v :: r ∧ t v σ H fun σ' H' => u r σ' H' Q
theorem pgs_nil : PGs X [] gNil := by
  intro pins s σ H vs us Q I r h
  obtain ⟨e, h⟩ := h
  subst e
  cases r
  exact assignInOrder_nil ⟨σ, H, I, h⟩
theorem pgs_cons {e : Expr} {es : List Expr} {t : TG} {u : TGs} (h1 : PG X e t) (h2 : PGs X es u)
    (hs : (assignEach (e :: es) X.env).map (·.2) = assign e X.env :: (assignEach es X.env).map (·.2) := by rfl) : PGs X (e :: es) (gCons t u) := by
  intro pins s σ H vs us Q I r h
  obtain ⟨v, vr, e1, h⟩ := h
  subst e1
  cases r with
  | cons r rr =>
    rw [hs]
    refine assignInOrder_cons (thn (h1 pins s σ H _ _ _ I r h) fun _ s1 ⟨σ1, H1, I1, q1⟩ => ?_)
    exact h2 pins s1 σ1 H1 _ _ Q I1 rr q1
/-- (a, b, ..) = a tuple of that length -/
noncomputable def gTup (K : PySem.W.Frag) (n : Nat) (t : TGs) : TG := fun v σ H Q => ∃ a xs, v = .ref a ∧ SqT K H a xs ∧ xs.length = n ∧ t xs σ H Q
theorem pg_tup {es : List Expr} {k : Nat} {t : TGs} {n : Nat} (hc : X.calm = true) (h : PGs X es t)
    (hn : (assignEach es X.env).length = n := by rfl) (hst : (assignEach es X.env).findIdx? (·.1) = none := by rfl) : PG X (.Tuple es k pos) (gTup X.K n t) := by
  intro pins s σ H v u Q I r hw
  obtain ⟨a, xs, e1, hq, hl, hw⟩ := hw
  subst e1
  cases r
  obtain ⟨its, rv, ht, hz⟩ := I.tuple hq
  refine assign_Tuple_tuple (I.ok.hd hc) ht (by simp [hn, ← hl, rv.length]) hst fun h' hx => ?_
  have I1 : Inv X pins σ H { s with heap := h' } := I.kept (t' := s.toks) fun b o e => hx b o (Nat.ne_of_lt (Heap.lt_size e)) e
  exact h pins _ σ H xs _ Q I1 (by simpa using rv) hw
/-- o[i] = .. -/
noncomputable def gSub (to ti : TE) (t : TSet) : TG := fun v σ H Q => to σ H fun o H1 => ti σ H1 fun i H2 => t o i v H2 fun H3 => Q σ H3
theorem pg_sub {o i : Expr} {to ti : TE} {t : TSet} (ho : PE X o to) (hi : PE X i ti) (hs : PSet X t)
    (ha : ∀ v, assign (.Subscript o i pos) X.env v = (do
      let ov ← holding [v] (eval o X.env)
      let iv ← holding [v, ov] (eval i X.env)
      standAt pos
      holding [v, ov, iv] (setItem ov iv v)
      release [v, ov, iv] []) := by intro _; rfl) : PG X (.Subscript o i pos) (gSub to ti t) := by
  intro pins s σ H v u Q I r h
  rw [ha]
  refine wpAny_bind (wpAny_holding (thn (ho pins s σ H _ I h) fun ov s1 ⟨x, H1, I1, r1, q1⟩ => ?_))
  refine wpAny_bind (wpAny_holding (thn (hi pins s1 σ H1 _ I1 q1) fun iv s2 ⟨y, H2, I2, r2, q2⟩ => ?_))
  refine wpAny_bind (wpAny_standAt (wpAny_bind (wpAny_holding (thn (hs pins s2 σ H2 x y v ov iv u _ I2 r1 r2 r q2) fun _ s3 ⟨H3, I3, q3⟩ => ?_))))
  exact wpAny_release ⟨σ, H3, I3, q3⟩
/-- target = value -/
noncomputable def tAsg (te : TE) (g : TG) : TS := fun D σ H => te σ H fun x H1 => g x σ H1 D.nx
theorem ps_asg {tg e : Expr} {te : TE} {g : TG} (he : PE X e te) (hg : PG X tg g) (hs : swapsWithSole [tg] e pos.line X.env = pure false := by rfl) (hw : swappedStores [tg] e X.env = pure none := by rfl)
    (h1 : (assignEach [tg] X.env).map (·.2) = [assign tg X.env] := by rfl) : PS X (.Assign [tg] e pos) (tAsg te g) := by
  intro pins s σ H D I h
  refine wpAny_Assign_stores (thn (he pins s σ H _ I h) fun v s1 ⟨x, H1, I1, r1, q1⟩ => ?_) hs hw
  rw [h1]
  exact thn (hg pins s1 σ H1 x v _ I1 r1 q1) fun _ s2 q => q
/-- name = value -/
theorem ps_set {i : Nat} {x : Str} {e : Expr} {te : TE} {pos' : Pos} (hN : X.N.Nodup) (hi : X.N[i]? = some x) (hx : Loc X.env.scope x) (he : PE X e te) (hs : swapsWith e (some (.Name x pos')) pos.line X.env = pure false := by rfl) (hf : X.fn x = true ∨ X.env.scope.names.lookup x = some .local := by first | exact .inl rfl | exact .inr rfl | assumption) :
    PS X (.Assign [.Name x pos'] e pos) (tAsg te (gName i)) := by
  intro pins s σ H D I h
  refine wpAny_Assign_Name (thn (he pins s σ H _ I h) fun v s1 ⟨y, H1, I1, r1, q1⟩ => ?_) hs
  exact store_ok I1 hN hi hx r1 (fun s2 I2 => ⟨_, H1, I2, q1⟩) hf
end

/-! ### while -/
section
variable {X : Cx} {pos : Pos}
/-- the invariant W with its measure -/
noncomputable def tWhile (c : TT) (tb : TS) : TS := fun D σ H => ∃ W : Nat → St → Hp → Prop, (∃ m, W m σ H) ∧ ∀ m σ H, W m σ H →
  c σ H fun b H1 => if b = true then ∃ N : St → Hp → Prop, (∀ σ' H', N σ' H' → ∃ m', m' < m ∧ W m' σ' H') ∧ tb { D with nx := N, ct := N, bk := D.nx } σ H1 else D.nx σ H1
theorem ps_while {c : Expr} {body : List Stmt} {tc : TT} {tb : TS} (hp : PassesOwn (model X.prog X.w) X.A X.env X.xe) (hc : PT X c tc) (hb : PSs X body tb) : PS X (.While c body [] pos) (tWhile tc tb) := by
  intro pins s σ H D I h
  obtain ⟨W, ⟨m0, w0⟩, turn⟩ := h
  refine wpAny_While (codeAny_whileLoop (fun n s' => ∃ σ' H', Inv X pins σ' H' s' ∧ W n σ' H') ?_ m0 ⟨σ, H, I, w0⟩)
  rintro n s1 ⟨σ1, H1, I1, w1⟩
  refine wpAny_passesOwn hp (thn (hc pins s1 σ1 H1 _ I1 (turn n σ1 H1 w1)) fun b s2 ⟨H2, I2, q2⟩ => ?_)
  cases b with
  | true =>
    obtain ⟨N, hN, q2⟩ := q2
    rw [if_pos rfl]
    refine wpAny_passesOwn hp (thn (hb pins s2 σ1 H2 _ I2 q2) fun f s3 q3 => ?_)
    cases f with
    | next =>
      obtain ⟨σ3, H3, I3, n3⟩ := q3
      obtain ⟨m', hm, w3⟩ := hN σ3 H3 n3
      exact ⟨m', hm, σ3, H3, I3, w3⟩
    | cont =>
      obtain ⟨σ3, H3, I3, n3⟩ := q3
      obtain ⟨m', hm, w3⟩ := hN σ3 H3 n3
      exact ⟨m', hm, σ3, H3, I3, w3⟩
    | brk => exact q3
    | ret v => exact q3
  | false =>
    rw [if_neg Bool.false_ne_true]
    exact wpAny_execs_nil ⟨σ1, H2, I2, q2⟩
end

/-! ### what a loop or a comprehension walks -/
/-- at turn i: it yields x (the heap may grow), or it stops -/
structure It where
  go : Nat → Hp → Prop
  yld : Nat → Hp → V → Hp → Prop
  stop : Nat → Hp → Prop
/-- the iterator's own objects may turn: they are not the frame's, not pinned, younger than the entry (or a comprehension's own) -/
noncomputable def FpOk (X : Cx) (pins : List (Addr × Obj)) (H : Hp) (b : Addr) : Prop :=
  H b = none ∧ b ≠ X.env.locals ∧ b ∉ X.fs ∧ (b ∈ X.ex ∨ X.s₀.heap.objs.size ≤ b) ∧ (∀ x c, X.env.cells.lookup x = some c → c ≠ b) ∧ ∀ p ∈ X.pn ++ pins, p.1 ≠ b
theorem Inv.fpOk {X : Cx} {pins : List (Addr × Obj)} {σ : St} {H H' : Hp} {s : Shared} {b : Addr} (I : Inv X pins σ H s) (hb : s.heap.objs.size ≤ b) (hn : H' b = none) : FpOk X pins H' b := by
  refine ⟨hn, Nat.ne_of_gt (Nat.lt_of_lt_of_le I.lt hb), I.nofs hb, .inr (Nat.le_trans I.sz hb), fun x c e z => ?_, fun p hp z => ?_⟩
  · obtain ⟨v, q⟩ := I.cell x c e
    exact absurd (Nat.lt_of_lt_of_le q.lt (by rw [z]; exact hb)) (Nat.lt_irrefl _)
  · exact absurd (Nat.lt_of_lt_of_le (Heap.lt_size (I.pin p hp).1) (by rw [z]; exact hb)) (Nat.lt_irrefl _)
structure Turn (P : Program) (w : World) (K : PySem.W.Frag) (tg : Expr) (J : It) (fp : List Addr) (it : Addr) (tn : Nat → Heap → Prop) : Prop where
  mem : it ∈ fp
  obj : ∀ i h, tn i h → ∀ b ∈ fp, ∃ o, h.get? b = some o ∧ ∀ v, o.data ≠ .cell v
  keep : ∀ i h h', tn i h → (∀ b ∈ fp, ∀ o, h.get? b = some o → h'.get? b = some o) → tn i h'
  item : ∀ (X : Cx), X.prog = P → X.w = w → X.K = K → X.calm = true → ∀ (i : Nat) (pins : List (Addr × Obj)) (s : Shared) (σ : St) (H : Hp) (E : Value → Shared → Prop), Inv X pins σ H s → (∀ b ∈ fp, FpOk X pins H b) → tn i s.heap → J.go i H →
    wpAny (model P w) X.A (pyNext (.ref it)) (fun r s1 => ∃ u, r = some u ∧
      wpAny (model P w) X.A (letOwnedTupleGo tg (.ref it) u) (fun _ s2 => ∃ x H', Inv X pins σ H' s2 ∧ RelV x u ∧ J.yld i H x H' ∧ tn (i + 1) s2.heap ∧ ∀ b ∈ fp, H' b = none) E s1) E s
  done : ∀ (X : Cx), X.prog = P → X.w = w → X.K = K → X.calm = true → ∀ (i : Nat) (pins : List (Addr × Obj)) (s : Shared) (σ : St) (H : Hp) (E : Value → Shared → Prop), Inv X pins σ H s → (∀ b ∈ fp, FpOk X pins H b) → tn i s.heap → J.stop i H →
    wpAny (model P w) X.A (pyNext (.ref it)) (fun r s1 => r = none ∧ Inv X pins σ H s1) E s
  self : ∀ (A : Around) (i : Nat) (s : Shared) (Q : Value → Shared → Prop) (E : Value → Shared → Prop), tn i s.heap → Q (.ref it) s → wpAny (model P w) A (pyIter (.ref it)) Q E s
noncomputable abbrev TI := St → Hp → (It → Hp → Prop) → Prop
/-- an iterator has come -/
noncomputable def PIE (X : Cx) (pins : List (Addr × Obj)) (σ : St) (tg : Expr) (R : It → Hp → Prop) (itv : Value) (s2 : Shared) : Prop :=
  ∃ (it : Addr) (fp : List Addr) (tn : Nat → Heap → Prop) (J : It) (H' : Hp), itv = .ref it ∧ Inv X pins σ H' s2 ∧ Turn X.prog X.w X.K tg J fp it tn ∧ tn 0 s2.heap ∧ (∀ b ∈ fp, FpOk X pins H' b) ∧ R J H'
noncomputable def PI (X : Cx) (tg iter : Expr) (wi : TI) : Prop :=
  ∀ (pins : List (Addr × Obj)) (s : Shared) (σ : St) (H : Hp) (R : It → Hp → Prop), Inv X pins σ H s → wi σ H R →
    wpAny (model X.prog X.w) X.A (eval iter X.env) (fun v s1 => wpAny (model X.prog X.w) X.A (pyIter v) (PIE X pins σ tg R) X.xe s1) X.xe s

/-- the step ahead of the store is nothing for an iterator that keeps no tuple -/
theorem go_of {M : Model} {A : Around} {E : Value → Shared → Prop} {s : Shared} {tg : Expr} {it : Addr} {u : Value} {o : Obj} {n : String} {vs : Array Value} {Q : Unit → Shared → Prop} (ho : s.heap.get? it = some o) (hc : o.cls = .type n) (hd : o.data = .fields vs)
    (hn : ["enumerate", "zip", "dict_itemiterator", "dict_reverseitemiterator", "odict_iterator", "itertools.zip_longest", "itertools.pairwise"].contains n = false) (hQ : Q () s) : wpAny M A (letOwnedTupleGo tg (.ref it) u) Q E s := by
  unfold letOwnedTupleGo
  cases tg <;> first
    | exact wpAny_pure hQ
    | (cases u <;> first
        | exact wpAny_pure hQ
        | (refine wpAny_bind (wpAny_load ho ?_)
           rw [hc, hd]
           show wpAny M A (if (["enumerate", "zip", "dict_itemiterator", "dict_reverseitemiterator", "odict_iterator", "itertools.zip_longest", "itertools.pairwise"].contains n && vs[0]? == some (rawInt _)) = true then _ else _) Q E s
           rw [if_neg (by intro h; rw [hn, Bool.false_and] at h; cases h)]
           exact wpAny_pure hQ))

/-- the list at a, as it stands at each turn (a loop may append to it) -/
noncomputable def Itl (K : PySem.W.Frag) (a : Addr) : It :=
  ⟨fun i H => ∃ xs x, SqL K H a xs ∧ xs[i]? = some x, fun i H x H' => H' = H ∧ ∀ xs, SqL K H a xs → xs[i]? = some x, fun i H => ∃ xs, SqL K H a xs ∧ xs.length ≤ i⟩
noncomputable def Itt (K : PySem.W.Frag) (a : Addr) : It :=
  ⟨fun i H => ∃ xs x, SqT K H a xs ∧ xs[i]? = some x, fun i H x H' => H' = H ∧ ∀ xs, SqT K H a xs → xs[i]? = some x, fun i H => ∃ xs, SqT K H a xs ∧ xs.length ≤ i⟩
/-- lo, lo + 1, .. (n of them) -/
noncomputable def Itr (lo : Int) (n : Nat) : It := ⟨fun i _ => i < n, fun i H x H' => H' = H ∧ x = .int (lo + i), fun i _ => n ≤ i⟩
theorem turn_list {P : Program} {w : World} {K : PySem.W.Frag} {tg : Expr} (a it : Addr) : Turn P w K tg (Itl K a) [it] it (fun i h => h.IsListIter it a i) where
  mem := by simp
  obj := fun i h st b hb => by
    have e : b = it := by simpa using hb
    subst e
    obtain ⟨o, e, c, d⟩ := st
    exact ⟨o, e, fun v z => by rw [d] at z; cases z⟩
  keep := fun i h h' st k => st.at fun o e => k it (by simp) o e
  item := by
    intro X hP hw hK hc i pins s σ H E I hf st hg
    subst hP hw hK
    obtain ⟨xs, x, hq, hx⟩ := hg
    obtain ⟨its, rv, p, hz⟩ := I.list hq
    obtain ⟨u, hu, ru⟩ := rv.get hx
    obtain ⟨f0, f1, f2, f3, f4, f5⟩ := hf it (by simp)
    refine wpAny_pyNext_list_item st p.isList (x := u) (by simpa using hu) fun h' st' sb => ?_
    have I1 : Inv X pins σ H { s with heap := h' } := I.turned (t' := s.toks) (fun b o hb e => (sb.2 b hb).trans e) f0 f1 f3 f4 f5
    obtain ⟨o, e, c, d⟩ := id st'
    exact ⟨u, rfl, go_of (s := { s with heap := h' }) e c d (by decide) ⟨x, H, I1, ru, ⟨rfl, fun ys hy => by rw [I.list_inj hy hq]; exact hx⟩, st', fun b hb => (hf b hb).1⟩⟩
  done := by
    intro X hP hw hK hc i pins s σ H E I hf st hg
    subst hP hw hK
    obtain ⟨xs, hq, hx⟩ := hg
    obtain ⟨its, rv, p, hz⟩ := I.list hq
    obtain ⟨f0, f1, f2, f3, f4, f5⟩ := hf it (by simp)
    have hl := rv.length
    exact wpAny_pyNext_list_end (I.ok.hd hc) st p.isList (by simp; omega) fun h' eb => ⟨rfl, I.turned (t' := s.toks) (fun b o hb e => eb b o hb e) f0 f1 f3 f4 f5⟩
  self := fun _ _ _ _ _ st h => wpAny_pyIter_listiter st h
theorem turn_tuple {P : Program} {w : World} {K : PySem.W.Frag} {tg : Expr} (a it : Addr) : Turn P w K tg (Itt K a) [it] it (fun i h => h.IsTupleIter it a i) where
  mem := by simp
  obj := fun i h st b hb => by
    have e : b = it := by simpa using hb
    subst e
    obtain ⟨o, e, c, d⟩ := st
    exact ⟨o, e, fun v z => by rw [d] at z; cases z⟩
  keep := fun i h h' st k => st.at fun o e => k it (by simp) o e
  item := by
    intro X hP hw hK hc i pins s σ H E I hf st hg
    subst hP hw hK
    obtain ⟨xs, x, hq, hx⟩ := hg
    obtain ⟨its, rv, p, hz⟩ := I.tuple hq
    obtain ⟨u, hu, ru⟩ := rv.get hx
    obtain ⟨f0, f1, f2, f3, f4, f5⟩ := hf it (by simp)
    refine wpAny_pyNext_tuple_item st (show s.heap.IsTuple a its.toArray from p) (x := u) (by simpa using hu) fun h' st' sb => ?_
    have I1 : Inv X pins σ H { s with heap := h' } := I.turned (t' := s.toks) (fun b o hb e => (sb.2 b hb).trans e) f0 f1 f3 f4 f5
    obtain ⟨o, e, c, d⟩ := id st'
    exact ⟨u, rfl, go_of (s := { s with heap := h' }) e c d (by decide) ⟨x, H, I1, ru, ⟨rfl, fun ys hy => by rw [I.tuple_inj hy hq]; exact hx⟩, st', fun b hb => (hf b hb).1⟩⟩
  done := by
    intro X hP hw hK hc i pins s σ H E I hf st hg
    subst hP hw hK
    obtain ⟨xs, hq, hx⟩ := hg
    obtain ⟨its, rv, p, hz⟩ := I.tuple hq
    obtain ⟨f0, f1, f2, f3, f4, f5⟩ := hf it (by simp)
    have hl := rv.length
    exact wpAny_pyNext_tuple_end (I.ok.hd hc) st (show s.heap.IsTuple a its.toArray from p) (by simp; omega) fun h' eb => ⟨rfl, I.turned (t' := s.toks) (fun b o hb e => eb b o hb e) f0 f1 f3 f4 f5⟩
  self := fun _ _ _ _ _ st h => wpAny_pyIter_tupleiter st h
theorem turn_range {P : Program} {w : World} {K : PySem.W.Frag} {tg : Expr} (it : Addr) (lo : Int) (n : Nat) : Turn P w K tg (Itr lo n) [it] it (fun i h => IsRangeIter h it (lo + (i : Nat) * 1) ((n : Int) - (i : Nat)) 1) where
  mem := by simp
  obj := fun i h st b hb => by
    have e : b = it := by simpa using hb
    subst e
    exact ⟨_, st, fun v z => by
      have z' : Data.fields _ = Data.cell v := z
      cases z'⟩
  keep := fun i h h' st k => k it (by simp) _ st
  item := by
    intro X hP hw hK hc i pins s σ H E I hf st hg
    subst hP hw hK
    obtain ⟨f0, f1, f2, f3, f4, f5⟩ := hf it (by simp)
    have W := Walks.range (prog := X.prog) (w := X.w) (I.ok.hd hc) it lo 1 n
    refine W.item i s _ _ hg st fun v h' tk hv st' kk => ?_
    obtain ⟨t, rfl⟩ := hv
    have I1 : Inv X pins σ H { s with heap := h', toks := tk } := I.turned (fun b o hb e => kk b o (by simpa using hb) e) f0 f1 f3 f4 f5
    refine ⟨_, rfl, go_of (s := { s with heap := h', toks := tk }) (n := "range_iterator") st' rfl rfl (by decide) ⟨.int (lo + i), H, I1, ⟨t, ?_⟩, ⟨rfl, rfl⟩, st', fun b hb => (hf b hb).1⟩⟩
    rw [Int.mul_one]
  done := by
    intro X hP hw hK hc i pins s σ H E I hf st hg
    subst hP hw hK
    obtain ⟨f0, f1, f2, f3, f4, f5⟩ := hf it (by simp)
    exact wpAny_pyNext_range_end (I.ok.hd hc) st (by have : n ≤ i := hg; omega) fun h' eb => ⟨rfl, I.turned (t' := s.toks) (fun b o hb e => eb b o hb e) f0 f1 f3 f4 f5⟩
  self := fun _ _ _ _ _ st h => wpAny_pyIter_rangeiter st h
end L2

namespace L2
open PySem PySem.Spec PyProof.Rows
section
variable {X : Cx} {tg : Expr}
noncomputable def iList (K : PySem.W.Frag) (tl : TE) : TI := fun σ H R => tl σ H fun x H1 => ∃ a, x = .ref a ∧ (∃ xs, SqL K H1 a xs) ∧ R (Itl K a) H1
noncomputable def iTup (K : PySem.W.Frag) (tl : TE) : TI := fun σ H R => tl σ H fun x H1 => ∃ a, x = .ref a ∧ (∃ xs, SqT K H1 a xs) ∧ R (Itt K a) H1
theorem pi_list {l : Expr} {tl : TE} (hl : PE X l tl) : PI X tg l (iList X.K tl) := by
  intro pins s σ H R I h
  refine thn (hl pins s σ H _ I h) fun v s1 ⟨x, H1, I1, r1, q1⟩ => ?_
  obtain ⟨a, e, ⟨xs, hq⟩, q⟩ := q1
  subst e
  cases r1
  obtain ⟨its, rv, p, hz⟩ := I1.list hq
  refine wpAny_pyIter_list p.isList ?_
  refine ⟨s1.heap.objs.size, [s1.heap.objs.size], _, _, H1, rfl, I1.kept (t' := s1.toks) fun b o e => Heap.get?_push_of_some _ e, turn_list a _, ⟨_, Heap.get?_push_size _ rfl, rfl, rfl⟩, fun b hb => ?_, q⟩
  have e : b = s1.heap.objs.size := by simpa using hb
  subst e
  exact I1.fpOk (Nat.le_refl _) (I1.hok.fresh (Nat.le_refl _))
theorem pi_tup {l : Expr} {tl : TE} (hl : PE X l tl) : PI X tg l (iTup X.K tl) := by
  intro pins s σ H R I h
  refine thn (hl pins s σ H _ I h) fun v s1 ⟨x, H1, I1, r1, q1⟩ => ?_
  obtain ⟨a, e, ⟨xs, hq⟩, q⟩ := q1
  subst e
  cases r1
  obtain ⟨its, rv, p, hz⟩ := I1.tuple hq
  refine wpAny_pyIter_tuple (show s1.heap.IsTuple a its.toArray from p) ?_
  refine ⟨s1.heap.objs.size, [s1.heap.objs.size], _, _, H1, rfl, I1.kept (t' := s1.toks) fun b o e => Heap.get?_push_of_some _ e, turn_tuple a _, ⟨_, Heap.get?_push_size _ rfl, rfl, rfl⟩, fun b hb => ?_, q⟩
  have e : b = s1.heap.objs.size := by simpa using hb
  subst e
  exact I1.fpOk (Nat.le_refl _) (I1.hok.fresh (Nat.le_refl _))
/-- a range object just made, walked -/
theorem range_it {pins : List (Addr × Obj)} {σ : St} {H : Hp} {s : Shared} {R : It → Hp → Prop} {E : Value → Shared → Prop} {lo hi : Int} {t u v : Tok} {tk : Nat} (I : Inv X pins σ H s) (h1 : -(2 ^ 62) ≤ lo) (h2 : lo < 2 ^ 62) (h3 : -(2 ^ 62) ≤ hi) (h4 : hi < 2 ^ 62)
    (q : R (Itr lo (hi - lo).toNat) H) : wpAny (model X.prog X.w) X.A (pyIter (.ref s.heap.objs.size)) (PIE X pins σ tg R) E { s with heap := s.heap.push { cls := .type "range", data := .fields #[.int lo t, .int hi u, .int 1 v] }, toks := tk } := by
  refine wpAny_pyIter_range (IsRange.new ..) (small_one h1 h2 h3 h4) ?_
  have I1 : Inv X pins σ H { s with heap := s.heap.push { cls := .type "range", data := .fields #[.int lo t, .int hi u, .int 1 v] }, toks := tk } := I.kept fun b o e => Heap.get?_push_of_some _ e
  refine ⟨(s.heap.push { cls := .type "range", data := .fields #[.int lo t, .int hi u, .int 1 v] }).objs.size, [(s.heap.push { cls := .type "range", data := .fields #[.int lo t, .int hi u, .int 1 v] }).objs.size], _, _, H, rfl,
    I1.kept (t' := tk) fun b o e => Heap.get?_push_of_some _ e, turn_range _ lo (hi - lo).toNat, ?_, fun b hb => ?_, q⟩
  · have e1 : lo + ((0 : Nat) : Int) * 1 = lo := by simp
    have e2 : (((hi - lo).toNat : Nat) : Int) - ((0 : Nat) : Int) = Builtin.Range.rangeSize lo hi 1 := by rw [rangeSize_one]; split <;> omega
    show IsRangeIter _ _ (lo + ((0 : Nat) : Int) * 1) ((((hi - lo).toNat : Nat) : Int) - ((0 : Nat) : Int)) 1
    rw [e1, e2]
    exact Heap.get?_push_size _ rfl
  · have e : b = (s.heap.push { cls := .type "range", data := .fields #[.int lo t, .int hi u, .int 1 v] }).objs.size := by simpa using hb
    subst e
    exact I1.fpOk (Nat.le_refl _) (I1.hok.fresh (Nat.le_refl _))
noncomputable def iRng1 (ta : TA) : TI := fun σ H R => ta σ H fun vs H1 => ∃ j : Int, vs = [.int j] ∧ -(2 ^ 62) ≤ j ∧ j < 2 ^ 62 ∧ R (Itr 0 j.toNat) H1
theorem pi_range1 {a : Expr} {ta : TA} {p pos : Pos} (hg : Gl X "range") (hm : X.mg "range" = none) (ha : PA X [a] ta) (hs : starEach [a] X.env = [(false, eval a X.env)] := by rfl) : PI X tg (.Call (.Name "range" p) [a] [] pos) (iRng1 ta) := by
  intro pins s σ H R I h
  refine Call_ (ld_blt I hg hm boot_range (PyProof.Rows.callWith_type1 (thn (ha pos pins s σ H _ I h) fun us s1 ⟨vs, H1, I1, r1, q1⟩ => ?_) hs rfl))
  obtain ⟨j, e, q1, q2, q⟩ := q1
  subst e
  cases r1 with
  | cons r rr =>
    cases rr
    obtain ⟨t, rfl⟩ := r
    exact call_range_1 (range_it I1 (by omega) (by omega) q1 q2 (by simpa using q))
/-! ### for -/
/-- W: the invariant by the turn and a measure; N: what the body is to reach -/
noncomputable def tFor (wi : TI) (g : TG) (tb : TS) : TS := fun D σ H => wi σ H fun J H1 => ∃ W : Nat → Nat → St → Hp → Prop, (∃ m, W 0 m σ H1) ∧ ∀ i m σ H, W i m σ H →
  (J.stop i H ∧ D.nx σ H) ∨ (J.go i H ∧ ∃ N : St → Hp → Prop, (∀ σ' H', N σ' H' → ∃ m', m' < m ∧ W (i + 1) m' σ' H') ∧ ∀ x H', J.yld i H x H' → g x σ H' fun σ2 H2 => tb { D with nx := N, ct := N, bk := D.nx } σ2 H2)
/-- the records at fp as they stand -/
noncomputable def pinsAt (fp : List Addr) (h : Heap) : List (Addr × Obj) := fp.filterMap fun b => (h.get? b).map fun o => (b, o)
theorem mem_pinsAt {fp : List Addr} {h : Heap} {b : Addr} {o : Obj} (hb : b ∈ fp) (e : h.get? b = some o) : (b, o) ∈ pinsAt fp h := List.mem_filterMap.mpr ⟨b, hb, by rw [e]; rfl⟩
theorem of_pinsAt {fp : List Addr} {h : Heap} {p : Addr × Obj} (hp : p ∈ pinsAt fp h) : p.1 ∈ fp ∧ h.get? p.1 = some p.2 := by
  obtain ⟨b, hb, e⟩ := List.mem_filterMap.mp hp
  cases q : h.get? b with
  | none => rw [q] at e; cases e
  | some o =>
    rw [q] at e
    have e' : (b, o) = p := Option.some.inj e
    subst e'
    exact ⟨hb, q⟩
theorem Inv.pinned {pins : List (Addr × Obj)} {σ : St} {H : Hp} {s : Shared} {fp : List Addr} (I : Inv X pins σ H s) (hf : ∀ b ∈ fp, FpOk X pins H b) (ho : ∀ b ∈ fp, ∃ o, s.heap.get? b = some o ∧ ∀ v, o.data ≠ .cell v) : Inv X (pins ++ pinsAt fp s.heap) σ H s :=
  I.pins_of fun p hp => (List.mem_append.mp hp).elim (fun z => I.pin p (List.mem_append_right _ z)) fun z => by
    obtain ⟨hb, e⟩ := of_pinsAt z
    obtain ⟨f0, f1, f2, _⟩ := hf p.1 hb
    obtain ⟨o, e', d⟩ := ho p.1 hb
    rw [e] at e'; cases e'
    exact ⟨e, f0, f1, f2, d⟩
theorem Inv.unpinned {pins pl : List (Addr × Obj)} {σ : St} {H : Hp} {s : Shared} (I : Inv X (pins ++ pl) σ H s) : Inv X pins σ H s := I.pins_of fun p hp => I.pin p (List.mem_append_right _ (List.mem_append_left _ hp))
theorem ps_for {iter : Expr} {body : List Stmt} {wi : TI} {g : TG} {tb : TS} {pos : Pos} (hp : PassesOwn (model X.prog X.w) X.A X.env X.xe) (hc : X.calm = true) (hi : PI X tg iter wi) (hg : PG X tg g) (hb : PSs X body tb)
    (hs : ∀ x, foldedSetIterable iter X.env x = pure x := by intro _; rfl) : PS X (.For tg iter body [] pos) (tFor wi g tb) := by
  intro pins s σ H D I h
  refine wpAny_For (thn (hi pins s σ H _ I h) fun v s1 h1 => thn h1 fun itv s2 h2 => ?_) hs
  obtain ⟨it, fp, tn, J, H2, e, I2, T, st2, f2, W, ⟨m0, w0⟩, turn⟩ := h2
  subst e
  -- what stays true of the iterator's objects through the loop
  have stat : ∀ {H' : Hp}, (∀ b ∈ fp, H' b = none) → ∀ b ∈ fp, FpOk X pins H' b := fun hn b hb => ⟨hn b hb, (f2 b hb).2⟩
  refine codeAny_forLoop_any (fun n s' => ∃ i σ' H', Inv X pins σ' H' s' ∧ tn i s'.heap ∧ (∀ b ∈ fp, H' b = none) ∧ W i n σ' H') ?_ m0 ⟨0, σ, H2, I2, st2, fun b hb => (f2 b hb).1, w0⟩
  rintro n s3 ⟨i, σ3, H3, I3, st3, fr3, w3⟩
  rcases turn i n σ3 H3 w3 with ⟨stop, qn⟩ | ⟨go, N, hN, step⟩
  · refine wpAny_passesOwn hp (thn (T.done X rfl rfl rfl hc i pins s3 σ3 H3 X.xe I3 (stat fr3) st3 stop) fun r s4 ⟨hr, I4⟩ => ?_)
    subst hr
    exact wpAny_execs_nil ⟨σ3, H3, I4, qn⟩
  · refine wpAny_passesOwn hp (thn (T.item X rfl rfl rfl hc i pins s3 σ3 H3 X.xe I3 (stat fr3) st3 go) fun r s4 ⟨u, hr, h4⟩ => ?_)
    subst hr
    refine wpAny_passesOwn hp (thn h4 fun _ s5 ⟨x, H5, I5, r5, y5, st5, fr5⟩ => ?_)
    have I5' := I5.pinned (stat fr5) (T.obj _ _ st5)
    refine wpAny_passesOwn hp (thn (hg _ s5 σ3 H5 x u _ I5' r5 (step x H5 y5)) fun _ s6 ⟨σ6, H6, I6, q6⟩ => ?_)
    refine wpAny_passesOwn hp (thn (hb _ s6 σ6 H6 _ I6 q6) fun f s7 q7 => ?_)
    have again : ∀ {σ7 : St} {H7 : Hp}, Inv X (pins ++ pinsAt fp s5.heap) σ7 H7 s7 → N σ7 H7 → ∃ m, m < n ∧ ∃ i σ' H', Inv X pins σ' H' s7 ∧ tn i s7.heap ∧ (∀ b ∈ fp, H' b = none) ∧ W i m σ' H' := fun {σ7 H7} I7 n7 => by
      obtain ⟨m', hm, w7⟩ := hN σ7 H7 n7
      refine ⟨m', hm, i + 1, σ7, H7, I7.unpinned, T.keep _ _ _ st5 fun b hb o e => (I7.pin (b, o) (List.mem_append_right _ (List.mem_append_right _ (mem_pinsAt hb e)))).1, fun b hb => ?_, w7⟩
      obtain ⟨o, e, d⟩ := T.obj _ _ st5 b hb
      exact (I7.pin (b, o) (List.mem_append_right _ (List.mem_append_right _ (mem_pinsAt hb e)))).2.1
    cases f with
    | next => obtain ⟨σ7, H7, I7, n7⟩ := q7; exact again I7 n7
    | cont => obtain ⟨σ7, H7, I7, n7⟩ := q7; exact again I7 n7
    | brk => obtain ⟨σ7, H7, I7, q7⟩ := q7; exact ⟨σ7, H7, I7.unpinned, q7⟩
    | ret v => obtain ⟨x7, σ7, H7, I7, r7, q7⟩ := q7; exact ⟨x7, σ7, H7, I7.unpinned, r7, q7⟩
end

/-! ### the forms one uses -/
/-- over a list that the body leaves as it is -/
theorem for_list {K : PySem.W.Frag} {a : Addr} {xs : List V} {g : TG} {tb : TS} {D : Ends} {σ : St} {H : Hp} (Pv : Nat → St → Hp → Prop) (h0 : Pv 0 σ H) (hl : ∀ i σ H, i ≤ xs.length → Pv i σ H → SqL K H a xs)
    (hs : ∀ i x σ H, xs[i]? = some x → Pv i σ H → g x σ H fun σ2 H2 => tb { D with nx := Pv (i + 1), ct := Pv (i + 1), bk := D.nx } σ2 H2) (hd : ∀ σ H, Pv xs.length σ H → D.nx σ H) :
    ∃ W : Nat → Nat → St → Hp → Prop, (∃ m, W 0 m σ H) ∧ ∀ i m σ H, W i m σ H →
      ((Itl K a).stop i H ∧ D.nx σ H) ∨ ((Itl K a).go i H ∧ ∃ N : St → Hp → Prop, (∀ σ' H', N σ' H' → ∃ m', m' < m ∧ W (i + 1) m' σ' H') ∧ ∀ x H', (Itl K a).yld i H x H' → g x σ H' fun σ2 H2 => tb { D with nx := N, ct := N, bk := D.nx } σ2 H2) := by
  refine ⟨fun i m σ H => m = xs.length - i ∧ i ≤ xs.length ∧ Pv i σ H, ⟨xs.length, by simp, Nat.zero_le _, h0⟩, ?_⟩
  rintro i m σ H ⟨rfl, hi, p⟩
  have q := hl i σ H hi p
  by_cases hlt : i < xs.length
  · refine .inr ⟨⟨xs, xs[i], q, by simp [hlt]⟩, Pv (i + 1), fun σ' H' p' => ⟨xs.length - (i + 1), by omega, rfl, hlt, p'⟩, fun x H' y => ?_⟩
    obtain ⟨e, y⟩ := y
    subst e
    exact hs i x σ _ (y xs q) p
  · have e : i = xs.length := by omega
    subst e
    exact .inl ⟨⟨xs, q, Nat.le_refl _⟩, hd σ H p⟩
theorem for_tup {K : PySem.W.Frag} {a : Addr} {xs : List V} {g : TG} {tb : TS} {D : Ends} {σ : St} {H : Hp} (Pv : Nat → St → Hp → Prop) (h0 : Pv 0 σ H) (hl : ∀ i σ H, i ≤ xs.length → Pv i σ H → SqT K H a xs)
    (hs : ∀ i x σ H, xs[i]? = some x → Pv i σ H → g x σ H fun σ2 H2 => tb { D with nx := Pv (i + 1), ct := Pv (i + 1), bk := D.nx } σ2 H2) (hd : ∀ σ H, Pv xs.length σ H → D.nx σ H) :
    ∃ W : Nat → Nat → St → Hp → Prop, (∃ m, W 0 m σ H) ∧ ∀ i m σ H, W i m σ H →
      ((Itt K a).stop i H ∧ D.nx σ H) ∨ ((Itt K a).go i H ∧ ∃ N : St → Hp → Prop, (∀ σ' H', N σ' H' → ∃ m', m' < m ∧ W (i + 1) m' σ' H') ∧ ∀ x H', (Itt K a).yld i H x H' → g x σ H' fun σ2 H2 => tb { D with nx := N, ct := N, bk := D.nx } σ2 H2) := by
  refine ⟨fun i m σ H => m = xs.length - i ∧ i ≤ xs.length ∧ Pv i σ H, ⟨xs.length, by simp, Nat.zero_le _, h0⟩, ?_⟩
  rintro i m σ H ⟨rfl, hi, p⟩
  have q := hl i σ H hi p
  by_cases hlt : i < xs.length
  · refine .inr ⟨⟨xs, xs[i], q, by simp [hlt]⟩, Pv (i + 1), fun σ' H' p' => ⟨xs.length - (i + 1), by omega, rfl, hlt, p'⟩, fun x H' y => ?_⟩
    obtain ⟨e, y⟩ := y
    subst e
    exact hs i x σ _ (y xs q) p
  · have e : i = xs.length := by omega
    subst e
    exact .inl ⟨⟨xs, q, Nat.le_refl _⟩, hd σ H p⟩
theorem for_range {lo : Int} {n : Nat} {g : TG} {tb : TS} {D : Ends} {σ : St} {H : Hp} (Pv : Nat → St → Hp → Prop) (h0 : Pv 0 σ H)
    (hs : ∀ i σ H, i < n → Pv i σ H → g (.int (lo + i)) σ H fun σ2 H2 => tb { D with nx := Pv (i + 1), ct := Pv (i + 1), bk := D.nx } σ2 H2) (hd : ∀ σ H, Pv n σ H → D.nx σ H) :
    ∃ W : Nat → Nat → St → Hp → Prop, (∃ m, W 0 m σ H) ∧ ∀ i m σ H, W i m σ H →
      ((Itr lo n).stop i H ∧ D.nx σ H) ∨ ((Itr lo n).go i H ∧ ∃ N : St → Hp → Prop, (∀ σ' H', N σ' H' → ∃ m', m' < m ∧ W (i + 1) m' σ' H') ∧ ∀ x H', (Itr lo n).yld i H x H' → g x σ H' fun σ2 H2 => tb { D with nx := N, ct := N, bk := D.nx } σ2 H2) := by
  refine ⟨fun i m σ H => m = n - i ∧ i ≤ n ∧ Pv i σ H, ⟨n, by simp, Nat.zero_le _, h0⟩, ?_⟩
  rintro i m σ H ⟨rfl, hi, p⟩
  by_cases hlt : i < n
  · refine .inr ⟨hlt, Pv (i + 1), fun σ' H' p' => ⟨n - (i + 1), by omega, rfl, hlt, p'⟩, fun x H' y => ?_⟩
    obtain ⟨e, y⟩ := y
    subst e y
    exact hs i σ _ hlt p
  · have e : i = n := by omega
    subst e
    exact .inl ⟨Nat.le_refl _, hd σ H p⟩
end L2

namespace L2
open PySem PySem.Spec PyProof.Rows

noncomputable abbrev R2 := V → V → Hp → VK → Prop
/-- a two-place operation on values: f is binaryOp op, inplaceOp op or compareOp op -/
noncomputable def OpR (X : Cx) (f : Value → Value → Sem Value) (r : R2) : Prop :=
  ∀ (pins : List (Addr × Obj)) (s : Shared) (σ : St) (H : Hp) (x y : V) (v u : Value) (Q : VK), Inv X pins σ H s → RelV x v → RelV y u → r x y H Q →
    wpAny (model X.prog X.w) X.A (f v u) (EP X pins σ Q) X.xe s
/-- a one-place operation -/
noncomputable def UnR (X : Cx) (f : Value → Sem Value) (r : V → Hp → VK → Prop) : Prop :=
  ∀ (pins : List (Addr × Obj)) (s : Shared) (σ : St) (H : Hp) (x : V) (v : Value) (Q : VK), Inv X pins σ H s → RelV x v → r x H Q →
    wpAny (model X.prog X.w) X.A (f v) (EP X pins σ Q) X.xe s
/-- a call of a value that is known (a builtin, a type) with values -/
noncomputable def CallR (X : Cx) (f : Value) (r : List V → Hp → VK → Prop) : Prop :=
  ∀ (pins : List (Addr × Obj)) (s : Shared) (σ : St) (H : Hp) (xs : List V) (us : List Value) (Q : VK), Inv X pins σ H s → Vals xs us → r xs H Q →
    wpAny (model X.prog X.w) X.A (call f us) (EP X pins σ Q) X.xe s
noncomputable def tOp (r : R2) (ta tb : TE) : TE := fun σ H Q => ta σ H fun x H1 => tb σ H1 fun y H2 => r x y H2 Q
noncomputable def tUn (r : V → Hp → VK → Prop) (ta : TE) : TE := fun σ H Q => ta σ H fun x H1 => r x H1 Q
/-- ints in, under C, and a value out -/
noncomputable def rI (C : Int → Int → Prop) (g : Int → Int → V) : R2 := fun x y H Q => ∃ i j, x = .int i ∧ y = .int j ∧ C i j ∧ Q (g i j) H
noncomputable def rI0 (g : Int → Int → V) : R2 := fun x y H Q => ∃ i j, x = .int i ∧ y = .int j ∧ Q (g i j) H
noncomputable def rU (g : Int → V) : V → Hp → VK → Prop := fun x H Q => ∃ i, x = .int i ∧ Q (g i) H

section
variable {X : Cx} {a b c : Expr} {ta tb tc : TE} {pos : Pos}

theorem binT (ha : PE X a ta) (hb : PE X b tb) {pins : List (Addr × Obj)} {s : Shared} {σ : St} {H : Hp} {R : V → V → Hp → Prop} (I : Inv X pins σ H s)
    (h : ta σ H fun x H1 => tb σ H1 fun y H2 => R x y H2) {Q : Value → Shared → Prop} {f : Value → Value → Sem Value}
    (hf : ∀ v u s2 x y H2, Inv X pins σ H2 s2 → RelV x v → RelV y u → R x y H2 → wpAny (model X.prog X.w) X.A (f v u) Q X.xe s2) :
    wpAny (model X.prog X.w) X.A (eval a X.env) (fun v s₁ => wpAny (model X.prog X.w) X.A (eval b X.env) (fun u s₂ => wpAny (model X.prog X.w) X.A (f v u) Q X.xe s₂) X.xe s₁) X.xe s := by
  refine thn (ha pins s σ H _ I h) fun v s1 ⟨x, H1, I1, r1, q1⟩ => ?_
  refine thn (hb pins s1 σ H1 _ I1 q1) fun u s2 ⟨y, H2, I2, r2, q2⟩ => ?_
  exact hf v u s2 x y H2 I2 r1 r2 q2

theorem pe_op {op : Operator} {r : R2} (ho : OpR X (binaryOp op) r) (ha : PE X a ta) (hb : PE X b tb) : PE X (.BinOp a op b pos) (tOp r ta tb) := by
  intro pins s σ H Q I h
  exact wpAny_BinOp (binT ha hb I h fun v u s2 x y H2 I2 rx ry q => ho pins s2 σ H2 x y v u Q I2 rx ry q)
theorem pe_un {op : UnaryOp} {r : V → Hp → VK → Prop} (ho : UnR X (unaryOp op) r) (ha : PE X a ta) : PE X (.UnaryOp op a pos) (tUn r ta) := by
  intro pins s σ H Q I h
  exact UnaryOp_ (thn (ha pins s σ H _ I h) fun v s1 ⟨x, H1, I1, r1, q1⟩ => ho pins s1 σ H1 x v Q I1 r1 q1)
/-! ### ints -/
theorem opI {f : Value → Value → Sem Value} {C : Int → Int → Prop} {g : Int → Int → Int}
    (rule : ∀ (i j : Int) (t u : Tok) (s : Shared) (Q : Value → Shared → Prop) (E : Value → Shared → Prop), C i j → Q (.int (g i j) s.toks) { s with toks := s.toks + 1 } → wpAny (model X.prog X.w) X.A (f (.int i t) (.int j u)) Q E s) :
    OpR X f (rI C fun i j => .int (g i j)) := by
  intro pins s σ H x y v u Q I rx ry h
  obtain ⟨i, j, rfl, rfl, hc, q⟩ := h
  obtain ⟨t, rfl⟩ := rx
  obtain ⟨t', rfl⟩ := ry
  exact rule i j t t' s _ _ hc ⟨.int (g i j), H, I.tok _, ⟨_, rfl⟩, q⟩
theorem opI0 {f : Value → Value → Sem Value} {g : Int → Int → Int}
    (rule : ∀ (i j : Int) (t u : Tok) (s : Shared) (Q : Value → Shared → Prop) (E : Value → Shared → Prop), Q (.int (g i j) s.toks) { s with toks := s.toks + 1 } → wpAny (model X.prog X.w) X.A (f (.int i t) (.int j u)) Q E s) :
    OpR X f (rI0 fun i j => .int (g i j)) := by
  intro pins s σ H x y v u Q I rx ry h
  obtain ⟨i, j, rfl, rfl, q⟩ := h
  obtain ⟨t, rfl⟩ := rx
  obtain ⟨t', rfl⟩ := ry
  exact rule i j t t' s _ _ ⟨.int (g i j), H, I.tok _, ⟨_, rfl⟩, q⟩
theorem opB0 {f : Value → Value → Sem Value} {g : Int → Int → Bool}
    (rule : ∀ (i j : Int) (t u : Tok) (s : Shared) (Q : Value → Shared → Prop) (E : Value → Shared → Prop), Q (.bool (g i j)) s → wpAny (model X.prog X.w) X.A (f (.int i t) (.int j u)) Q E s) :
    OpR X f (rI0 fun i j => .bl (g i j)) := by
  intro pins s σ H x y v u Q I rx ry h
  obtain ⟨i, j, rfl, rfl, q⟩ := h
  obtain ⟨t, rfl⟩ := rx
  obtain ⟨t', rfl⟩ := ry
  exact rule i j t t' s _ _ ⟨.bl (g i j), H, I, rfl, q⟩

noncomputable def CDiv (i j : Int) : Prop := 0 < j ∧ j < 1073741824
noncomputable def CPow (i j : Int) : Prop := 0 ≤ j ∧ j ≤ 1000000 ∧ i.natAbs < 2 ^ 64
noncomputable def CMul (i j : Int) : Prop := (-(2 ^ 64) < i ∧ i < 2 ^ 64) ∨ (-(2 ^ 64) < j ∧ j < 2 ^ 64)
theorem CMul.ok {i j : Int} (h : CMul i j) : IntMulOk i j := by
  rcases h with ⟨h1, h2⟩ | ⟨h1, h2⟩
  · exact .of_left (intBits_le_64 h1 h2)
  · exact .of_right (intBits_le_64 h1 h2)
theorem two_pow_nn (k : Nat) : (0 : Int) ≤ 2 ^ k := by
  rw [two_pow_cast]
  exact Int.natCast_nonneg _

theorem op_add : OpR X (binaryOp .Add) (rI0 fun i j => .int (i + j)) := opI0 fun _ _ _ _ _ _ _ q => add_int q
theorem op_sub : OpR X (binaryOp .Sub) (rI0 fun i j => .int (i - j)) := opI0 fun _ _ _ _ _ _ _ q => sub_int q
theorem op_mul : OpR X (binaryOp .Mult) (rI CMul fun i j => .int (i * j)) := opI fun _ _ _ _ _ _ _ hc q => mul_int q hc.ok
/-- // by a positive divisor -/
theorem op_fdiv : OpR X (binaryOp .FloorDiv) (rI CDiv fun i j => .int (i / j)) := opI fun i j _ _ _ _ _ hc q => by
  have h1 : (0 : Int) < j := hc.1
  have h2 : j < 1073741824 := hc.2
  exact floordiv_int (by omega) (by rw [Int.fdiv_eq_ediv_of_nonneg i (by omega)]; exact q) (.inl (PyProof.noPylong_small (by omega)))
/-- % by a positive divisor of any size -/
theorem op_mod : OpR X (binaryOp .Mod) (rI (fun _ j => 0 < j) fun i j => .int (i % j)) := opI fun i j _ _ _ _ _ hc q => by
  have h1 : (0 : Int) < j := hc
  exact mod_int' (by omega) (by rw [Int.fmod_eq_emod_of_nonneg i (by omega)]; exact q)
theorem op_pow : OpR X (binaryOp .Pow) (rI CPow fun i j => .int (i ^ j.toNat)) := opI fun _ _ _ _ _ _ _ hc q => pow_int_small hc.1 hc.2.1 hc.2.2 q
theorem op_shl : OpR X (binaryOp .LShift) (rI CPow fun i j => .int (i * 2 ^ j.toNat)) := opI fun _ _ _ _ _ _ _ hc q => lshift_int_small hc.1 hc.2.1 hc.2.2 q
theorem op_shr : OpR X (binaryOp .RShift) (rI (fun _ j => 0 ≤ j) fun i j => .int (i / 2 ^ j.toNat)) := opI fun i j _ _ _ _ _ hc q =>
  rshift_int hc (by rw [Int.fdiv_eq_ediv_of_nonneg i (two_pow_nn _)]; exact q)
theorem op_and : OpR X (binaryOp .BitAnd) (rI0 fun i j => .int (Builtin.bitAnd i j)) := opI0 fun _ _ _ _ _ _ _ q => and_int q
theorem op_or : OpR X (binaryOp .BitOr) (rI0 fun i j => .int (Builtin.bitOr i j)) := opI0 fun _ _ _ _ _ _ _ q => or_int q
theorem unI {f : Value → Sem Value} {g : Int → Int}
    (rule : ∀ (i : Int) (t : Tok) (s : Shared) (Q : Value → Shared → Prop) (E : Value → Shared → Prop), Q (.int (g i) s.toks) { s with toks := s.toks + 1 } → wpAny (model X.prog X.w) X.A (f (.int i t)) Q E s) :
    UnR X f (rU fun i => .int (g i)) := by
  intro pins s σ H x v Q I rx h
  obtain ⟨i, rfl, q⟩ := h
  obtain ⟨t, rfl⟩ := rx
  exact rule i t s _ _ ⟨.int (g i), H, I.tok _, ⟨_, rfl⟩, q⟩
theorem un_neg : UnR X (unaryOp .USub) (rU fun i => .int (-i)) := unI fun _ _ _ _ _ q => neg_int q
theorem un_inv : UnR X (unaryOp .Invert) (rU fun i => .int (Builtin.bitNot i)) := unI fun _ _ _ _ _ q => invert_int q

/-! ### bools among ints: n += (a < b) -/
end

/-! ### comparisons -/
/-- the scalars that == tells apart as data does -/
noncomputable def scal : V → V → Bool
  | .non, .non => true | .non, .int _ => true | .int _, .non => true | .non, .bl _ => true | .bl _, .non => true | .non, .str _ => true | .str _, .non => true
  | .int _, .int _ => true | .bl _, .bl _ => true | .str _, .str _ => true | .byt _, .byt _ => true
  | .int _, .str _ => true | .str _, .int _ => true | .bl _, .str _ => true | .str _, .bl _ => true
  | _, _ => false
noncomputable def rEq : R2 := fun x y H Q => scal x y = true ∧ Q (.bl (decide (x = y))) H
noncomputable def rNe : R2 := fun x y H Q => scal x y = true ∧ Q (.bl (!decide (x = y))) H

theorem dec_int {i j : Int} : decide (V.int i = V.int j) = (i == j) := by
  rw [Bool.eq_iff_iff]
  simp
theorem dec_bl {i j : Bool} : decide (V.bl i = V.bl j) = (i == j) := by
  rw [Bool.eq_iff_iff]
  simp
theorem dec_str {i j : Str} : decide (V.str i = V.str j) = (i == j) := by
  rw [Bool.eq_iff_iff]
  simp
theorem dec_byt {i j : Array UInt8} : decide (V.byt i = V.byt j) = (i.toList == j.toList) := by
  rw [Bool.eq_iff_iff]
  cases i
  cases j
  simp

section
variable {X : Cx} {a b c : Expr} {ta tb tc : TE} {pos : Pos}
theorem fin_bl {pins : List (Addr × Obj)} {σ : St} {H : Hp} {s : Shared} {Q : VK} {k k' : Bool} (I : Inv X pins σ H s) (q : Q (.bl k) H) (e : k = k') : EP X pins σ Q (.bool k') s := by
  subst e
  exact ⟨.bl k, H, I, rfl, q⟩
theorem op_eq : OpR X (compareOp .Eq) rEq := by
  intro pins s σ H x y v u Q I rx ry h
  obtain ⟨hs, q⟩ := h
  cases x with
  | non =>
    cases rx
    cases y with
    | non => cases ry; exact PySem.EqNone.eq_none_none (fin_bl I q (by simp))
    | bl j => cases ry; exact PySem.EqNone.eq_none_bool (fin_bl I q (by simp))
    | int j => obtain ⟨t', rfl⟩ := ry; exact PySem.EqNone.eq_none_int (fin_bl I q (by simp))
    | str j => obtain ⟨t', rfl⟩ := ry; exact PySem.EqNone.eq_none_str (fin_bl I q (by simp))
    | _ => exact absurd (show false = true from hs) Bool.false_ne_true
  | bl i =>
    cases rx
    cases y with
    | non => cases ry; exact PySem.EqNone.eq_bool_none (fin_bl I q (by simp))
    | bl j => cases ry; exact eq_bool (fin_bl I q dec_bl)
    | str j => obtain ⟨t', rfl⟩ := ry; exact PySem.EqMixed.eq_bool_str (fin_bl I q (by simp))
    | _ => exact absurd (show false = true from hs) Bool.false_ne_true
  | int i =>
    obtain ⟨t, rfl⟩ := rx
    cases y with
    | non => cases ry; exact PySem.EqNone.eq_int_none (fin_bl I q (by simp))
    | int j => obtain ⟨t', rfl⟩ := ry; exact eq_int (fin_bl I q dec_int)
    | str j => obtain ⟨t', rfl⟩ := ry; exact PySem.EqMixed.eq_int_str (fin_bl I q (by simp))
    | _ => exact absurd (show false = true from hs) Bool.false_ne_true
  | str i =>
    obtain ⟨t, rfl⟩ := rx
    cases y with
    | non => cases ry; exact PySem.EqNone.eq_str_none (fin_bl I q (by simp))
    | bl j => cases ry; exact PySem.EqMixed.eq_str_bool (fin_bl I q (by simp))
    | int j => obtain ⟨t', rfl⟩ := ry; exact PySem.EqMixed.eq_str_int (fin_bl I q (by simp))
    | str j => obtain ⟨t', rfl⟩ := ry; exact eq_str (fin_bl I q dec_str)
    | _ => exact absurd (show false = true from hs) Bool.false_ne_true
  | byt i =>
    obtain ⟨t, rfl⟩ := rx
    cases y with
    | byt j => obtain ⟨t', rfl⟩ := ry; exact PySem.W.eq_bytes (fin_bl I q dec_byt)
    | _ => exact absurd (show false = true from hs) Bool.false_ne_true
  | _ => cases y <;> exact absurd (show false = true from hs) Bool.false_ne_true
theorem op_ne : OpR X (compareOp .NotEq) rNe := by
  intro pins s σ H x y v u Q I rx ry h
  obtain ⟨hs, q⟩ := h
  cases x with
  | non =>
    cases rx
    cases y with
    | non => cases ry; exact PySem.EqNone.ne_none_none (fin_bl I q (by simp))
    | bl j => cases ry; exact PySem.EqNone.ne_none_bool (fin_bl I q (by simp))
    | int j => obtain ⟨t', rfl⟩ := ry; exact PySem.EqNone.ne_none_int (fin_bl I q (by simp))
    | str j => obtain ⟨t', rfl⟩ := ry; exact PySem.EqNone.ne_none_str (fin_bl I q (by simp))
    | _ => exact absurd (show false = true from hs) Bool.false_ne_true
  | bl i =>
    cases rx
    cases y with
    | non => cases ry; exact PySem.EqNone.ne_bool_none (fin_bl I q (by simp))
    | bl j => cases ry; exact ne_bool (fin_bl I q (congrArg not dec_bl))
    | str j => obtain ⟨t', rfl⟩ := ry; exact PySem.EqMixed.ne_bool_str (fin_bl I q (by simp))
    | _ => exact absurd (show false = true from hs) Bool.false_ne_true
  | int i =>
    obtain ⟨t, rfl⟩ := rx
    cases y with
    | non => cases ry; exact PySem.EqNone.ne_int_none (fin_bl I q (by simp))
    | int j => obtain ⟨t', rfl⟩ := ry; exact ne_int (fin_bl I q (congrArg not dec_int))
    | str j => obtain ⟨t', rfl⟩ := ry; exact PySem.EqMixed.ne_int_str (fin_bl I q (by simp))
    | _ => exact absurd (show false = true from hs) Bool.false_ne_true
  | str i =>
    obtain ⟨t, rfl⟩ := rx
    cases y with
    | non => cases ry; exact PySem.EqNone.ne_str_none (fin_bl I q (by simp))
    | bl j => cases ry; exact PySem.EqMixed.ne_str_bool (fin_bl I q (by simp))
    | int j => obtain ⟨t', rfl⟩ := ry; exact PySem.EqMixed.ne_str_int (fin_bl I q (by simp))
    | str j => obtain ⟨t', rfl⟩ := ry; exact ne_str (fin_bl I q (congrArg not dec_str))
    | _ => exact absurd (show false = true from hs) Bool.false_ne_true
  | byt i =>
    obtain ⟨t, rfl⟩ := rx
    cases y with
    | byt j => obtain ⟨t', rfl⟩ := ry; exact PySem.W.ne_bytes (fin_bl I q (congrArg not dec_byt))
    | _ => exact absurd (show false = true from hs) Bool.false_ne_true
  | _ => cases y <;> exact absurd (show false = true from hs) Bool.false_ne_true

theorem op_lt : OpR X (compareOp .Lt) (rI0 fun i j => .bl (decide (i < j))) := opB0 fun _ _ _ _ _ _ _ q => lt_int q
theorem op_gt : OpR X (compareOp .Gt) (rI0 fun i j => .bl (decide (j < i))) := opB0 fun _ _ _ _ _ _ _ q => gt_int q
theorem op_ge : OpR X (compareOp .GtE) (rI0 fun i j => .bl (decide (j ≤ i))) := opB0 fun _ _ _ _ _ _ _ q => ge_int q
/-- is None, is not None: the right side a value none -/
theorem op_isN : OpR X (compareOp .Is) (fun x y H Q => y = .non ∧ Q (.bl (decide (x = .non))) H) := by
  intro pins s σ H x y v u Q I rx ry h
  obtain ⟨rfl, q⟩ := h
  cases ry
  refine is_none_gen (fin_bl I q ?_)
  cases x <;> first
    | (cases rx; rfl)
    | (obtain ⟨t, rfl⟩ := rx; rfl)
theorem nomark (b : Expr) {op : CmpOp} (h : op ≠ .In := by decide) (h2 : op ≠ .NotIn := by decide) : behindInMarks op b = false := by
  have e1 : (op == CmpOp.In) = false := by cases op <;> first | rfl | exact absurd rfl h
  have e2 : (op == CmpOp.NotIn) = false := by cases op <;> first | rfl | exact absurd rfl h2
  cases b <;> simp [behindInMarks, e1, e2]
/-- a comparison as a value; hm: nomark b, or (for in, not in) by with_unfolding_all rfl -/
theorem pe_cmpR {op : CmpOp} {r : R2} (ho : OpR X (compareOp op) r) (ha : PE X a ta) (hb : PE X b tb) (hm : behindInMarks op b = false) : PE X (.Compare a [op] [b] pos) (tOp r ta tb) := by
  intro pins s σ H Q I h
  exact wpAny_Compare1 (binT ha hb I h fun v u s2 x y H2 I2 rx ry q => ho pins s2 σ H2 x y v u Q I2 rx ry q) hm
/-- a reading of a value as a test -/
noncomputable def tTest (t : TE) : TT := fun σ H Q => t σ H fun x H' => ∃ k, x = .bl k ∧ Q k H'
theorem pt_cmpR {op : CmpOp} {r : R2} (ho : OpR X (compareOp op) r) (ha : PE X a ta) (hb : PE X b tb) (hm : behindInMarks op b = false) : PT X (.Compare a [op] [b] pos) (tTest (tOp r ta tb)) := by
  intro pins s σ H Q I h
  refine wpAny_isTrue_Compare1 (thn (ha pins s σ H _ I h) fun v s1 ⟨x, H1, I1, r1, q1⟩ => thn (hb pins s1 σ H1 _ I1 q1) fun u s2 ⟨y, H2, I2, r2, q2⟩ =>
    thn (ho pins s2 σ H2 x y v u _ I2 r1 r2 q2) fun c s3 ⟨z, H3, I3, r3, k, e, q3⟩ => ?_) hm
  subst e
  cases r3
  exact wpAny_truthy_bool ⟨H3, I3, q3⟩
/-! ### truth -/
theorem line63 : (sizeLine : Nat) < 2 ^ 63 := by rw [sizeLine_eq]; decide
/-! ### strs and bytes -/
theorem op_add_str : OpR X (binaryOp .Add) (fun x y H Q => ∃ i j, x = .str i ∧ y = .str j ∧ i.length + j.length ≤ sizeLine ∧ Q (.str (i ++ j)) H) := by
  intro pins s σ H x y v u Q I rx ry h
  obtain ⟨i, j, rfl, rfl, hz, q⟩ := h
  obtain ⟨t, rfl⟩ := rx
  obtain ⟨t', rfl⟩ := ry
  exact add_str (fun t' tk => ⟨.str (i ++ j), H, I.tok _, ⟨_, rfl⟩, q⟩) hz
/-! ### scalar builtins, by CallR -/
theorem vals1 {x : V} {us : List Value} (r : Vals [x] us) : ∃ u, us = [u] ∧ RelV x u := by
  cases r with
  | cons r1 r2 => cases r2; exact ⟨_, rfl, r1⟩
theorem vals2 {x y : V} {us : List Value} (r : Vals [x, y] us) : ∃ u w', us = [u, w'] ∧ RelV x u ∧ RelV y w' := by
  cases r with
  | cons r1 r2 =>
    cases r2 with
    | cons r3 r4 => cases r4; exact ⟨_, _, rfl, r1, r3⟩
theorem call_int1 : CallR X (.type "int") (fun xs H Q => (∃ i, xs = [.int i] ∧ Q (.int i) H) ∨ ∃ k, xs = [.bl k] ∧ Q (.int (if k then 1 else 0)) H) := by
  intro pins s σ H xs us Q I r h
  rcases h with ⟨i, rfl, q⟩ | ⟨k, rfl, q⟩
  · obtain ⟨u, rfl, t, rfl⟩ := vals1 r
    exact call_int_int ⟨.int i, H, I, ⟨_, rfl⟩, q⟩
  · obtain ⟨u, rfl, r1⟩ := vals1 r
    cases r1
    exact call_int_bool ⟨.int (if k then 1 else 0), H, I.tok _, ⟨_, rfl⟩, q⟩
end
end L2

namespace L2
open PySem PySem.Spec PyProof.Rows

/-! ### an instance, its attributes a map -/
structure ObjM (h : Heap) (x dx C : Addr) (mA : Str → Option Value) : Prop where
  obj : h.get? x = some (PySem.W.instObj C dx)
  ns : h.Ns1 dx mA
  ne : dx ≠ x

theorem lookIn_ns {h : Heap} {dx : Addr} {mA : Str → Option Value} (n : h.Ns1 dx mA) : ∃ od, h.get? dx = some od ∧ ∀ name, PySem.W.lookIn name od = some (mA name) := by
  obtain ⟨o, es, ep, ho, hd, hk, _, hm⟩ := n
  refine ⟨o, ho, fun name => ?_⟩
  have e := hm name
  unfold nsFind findBy at e
  rw [← Array.find?_toList] at e
  unfold PySem.W.lookIn
  rw [hd]
  dsimp only
  split
  · rename_i y q
    rw [q] at e
    exact congrArg some e
  · rename_i q
    rw [q] at e
    have a : es.toList.any (·.refKey) = false := by
      rw [List.any_eq_false]
      intro y hy
      obtain ⟨z, t, hkey⟩ := hk y (Array.mem_toList_iff.mp hy)
      simp [DictEntry.refKey, hkey]
    have a' : ¬ es.toList.any (·.refKey) = true := by rw [a]; exact Bool.false_ne_true
    rw [if_neg a']
    exact congrArg some e

theorem ObjM.look {h : Heap} {x dx C : Addr} {mA : Str → Option Value} (I : ObjM h x dx C mA) : ∃ od, PySem.W.InstAt h x (PySem.W.instObj C dx) C (some od) ∧ ∀ name, PySem.W.lookIn name od = some (mA name) :=
  let ⟨od, ho, hl⟩ := lookIn_ns I.ns
  ⟨od, ⟨I.obj, rfl, rfl, ho⟩, hl⟩

section
variable {prog : Program} {w : World} {A : Around} {E : Value → Shared → Prop} {s : Shared} {K : PySem.W.Frag} {x dx C f : Addr} {mA : Str → Option Value} {name : Str} {v : Value}

end

/-! ### the attributes as a list of pairs -/
theorem RelO.some_of {v : V} {o : Option Value} (r : RelO (some v) o) : ∃ u, o = some u ∧ RelV v u := by
  cases o with
  | none => exact (show False from r).elim
  | some u => exact ⟨u, rfl, r⟩
section
variable {P : Program} {w : World} {H H' : Hp} {h h' : Heap} {a C dx : Addr} {fs fs' : List (Str × V)}
theorem ins_get (hok : HOk P w H h) (e : H a = some (.ins C dx fs)) : ∃ mA, ObjM h a dx C mA ∧ (∀ f, RelO (fs.lookup f) (mA f)) ∧ PySem.Within mA (fs.map (·.1)) ∧ fs.length ≤ 1000 ∧ H dx = some (.own a) := by
  obtain ⟨d, z, ne, ob, mA, n, r, q⟩ := (show ObjOk P w H h a (.ins C dx fs) from hok a _ e)
  exact ⟨mA, ⟨ob, n, ne⟩, r, q, z, d⟩
end

/-! ### what of the text a class must have -/
structure Cls (K : PySem.W.Frag) (C : Addr) : Prop where
  pg : PySem.W.plainGet K C Str.empty = true
  hd : PySem.W.hasDictIn K C = true
  po : PySem.W.plainOver K C = true
  sa : PySem.W.findIn K (.ref C) "__setattr__" = some (some (.builtin "object.__setattr__"))
theorem Cls.get {K : PySem.W.Frag} {C : Addr} (c : Cls K C) (f : Str) : PySem.W.plainGet K C f = true := c.pg
section
variable {X : Cx} {pins : List (Addr × Obj)} {σ : St} {H : Hp} {s : Shared} {a C dx : Addr} {fs : List (Str × V)} {f : Str} {v : V} {A : Around} {E : Value → Shared → Prop}

end

/-! ### readings and rules -/
section
variable {X : Cx} {o e value : Expr} {f : Str} {pos pos' tpos : Pos} {ta tv : TE}
end

/-! ### isinstance -/
section
variable {X : Cx} {pins : List (Addr × Obj)} {σ : St} {H : Hp} {s : Shared} {A : Around} {E : Value → Shared → Prop} {Q : Value → Shared → Prop} {c : Value} {b : Bool}
/-- the type of a value, as the fragment's deciders take it; for an instance its class -/
inductive TyOf (K : PySem.W.Frag) (H : Hp) : V → Value → Prop where
  | non : TyOf K H .non (.type "NoneType")
  | bl (x : Bool) : TyOf K H (.bl x) (.type "bool")
  | int (i : Int) : TyOf K H (.int i) (.type "int")
  | str (x : Str) : TyOf K H (.str x) (.type "str")
  | flt (x : UInt64) : TyOf K H (.flt x) (.type "float")
  | lst {a : Addr} {xs : List V} (e : H a = some (.lst xs)) : TyOf K H (.ref a) (.type "list")
  | frz {a : Addr} {o : Obj} {xs : List V} (e : H a = some (.frz o (.lst xs))) : TyOf K H (.ref a) (.type "list")
  | tup {a : Addr} {xs : List V} (e : H a = some (.tup xs)) : TyOf K H (.ref a) (.type "tuple")
  | dK {a : Addr} {kvs : List (Key × V)} (e : H a = some (.dK kvs)) : TyOf K H (.ref a) (.type "dict")
  | dT {a : Addr} {kvs : List (List Key × V)} (e : H a = some (.dT kvs)) : TyOf K H (.ref a) (.type "dict")
  | ins {a C dx : Addr} {fs : List (Str × V)} (e : H a = some (.ins C dx fs)) (cl : Cls K C) (ha : PySem.W.findIn K (.ref C) "__class__" = some (some (.builtin "object.__class__")))
      (hn : PySem.W.specialIn K (.builtin "object.__class__") "__get__" = some (some (.builtin "getset_descriptor.__get__"))) (htk : PySem.W.takesIn K (.builtin "object.__class__") = some true)
      (hm : PySem.W.mroIn K C (.type "object") = some true) : TyOf K H (.ref a) (.ref C)
/-- isinstance(x, c) for one class c, a built-in or an own one: kitOne's answer -/
theorem isinst_ok {x : V} {u t : Value} (I : Inv X pins σ H s) (rx : RelV x u) (ty : TyOf X.K H x t) (e : PySem.W.kitOne X.K t c = some b) (h : ∀ tk, Q (.bool b) { s with toks := tk }) :
    wpAny (model X.prog X.w) A (call (.builtin "isinstance") [u, c]) Q E s := by
  cases ty with
  | non => cases (show u = Value.none from rx); exact PySem.W.kia_one PySem.W.kitx_none I.kIn True.intro e (fun z => nomatch z) h
  | bl y => cases (show u = Value.bool y from rx); exact PySem.W.kia_one PySem.W.kitx_bool I.kIn True.intro e (fun z => nomatch z) h
  | int i => obtain ⟨t, q⟩ := (show ∃ t, u = Value.int i t from rx); cases q; exact PySem.W.kia_one PySem.W.kitx_int I.kIn True.intro e (fun z => nomatch z) h
  | str y => obtain ⟨t, q⟩ := (show ∃ t, u = Value.str y t from rx); cases q; exact PySem.W.kia_one PySem.W.kitx_str I.kIn True.intro e (fun z => nomatch z) h
  | flt y => obtain ⟨t, q⟩ := (show ∃ t, u = Value.float y t from rx); cases q; exact PySem.W.kia_one PySem.W.kitx_float I.kIn True.intro e (fun z => nomatch z) h
  | @lst a xs ea =>
    cases (show u = Value.ref a from rx)
    obtain ⟨_, _, n, _, h1⟩ := (show ObjOk X.prog X.w H s.heap a (.lst xs) from I.hok a _ ea)
    exact PySem.W.kia_one PySem.W.kitx_list I.kIn ⟨_, h1, rfl⟩ e (fun z => nomatch z) h
  | @frz a ob xs ea =>
    cases (show u = Value.ref a from rx)
    obtain ⟨_, _, _, n, _, h1⟩ := (show ObjOk X.prog X.w H s.heap a (.frz ob (.lst xs)) from I.hok a _ ea)
    exact PySem.W.kia_one PySem.W.kitx_list I.kIn ⟨_, h1, rfl⟩ e (fun z => nomatch z) h
  | @tup a xs ea =>
    cases (show u = Value.ref a from rx)
    obtain ⟨_, _, _, p⟩ := (show ObjOk X.prog X.w H s.heap a (.tup xs) from I.hok a _ ea)
    obtain ⟨o, h1, h2, _⟩ := p
    exact PySem.W.kia_one PySem.W.kitx_tuple I.kIn ⟨o, h1, h2⟩ e (fun z => nomatch z) h
  | @dK a kvs ea =>
    cases (show u = Value.ref a from rx)
    obtain ⟨_, _, vs, _, p⟩ := (show ObjOk X.prog X.w H s.heap a (.dK kvs) from I.hok a _ ea)
    obtain ⟨o, es, ep, h1, h2, _⟩ := p
    exact PySem.W.kia_one PySem.W.kitx_dict I.kIn ⟨o, h1, h2.1⟩ e (fun z => nomatch z) h
  | @dT a kvs ea =>
    cases (show u = Value.ref a from rx)
    obtain ⟨_, _, xs, _, o, es, ep, h1, h2, _⟩ := (show ObjOk X.prog X.w H s.heap a (.dT kvs) from I.hok a _ ea)
    exact PySem.W.kia_one PySem.W.kitx_dict I.kIn ⟨o, h1, h2.1⟩ e (fun z => nomatch z) h
  | @ins a C dx fs ea cl ha hn htk hm =>
    cases (show u = Value.ref a from rx)
    obtain ⟨mA, O, _⟩ := ins_get I.hok ea
    obtain ⟨od, J, _⟩ := O.look
    exact PySem.W.kia_one (PySem.W.kitx_own (cl.get _) cl.hd ha hn htk hm) I.kIn J e (fun z => nomatch z) h
end
end L2

namespace L2
open PySem PySem.Spec PyProof.Rows

/-! ### room -/
structure Room (k : Nat) (A : Around) : Prop where
  hd : A.handled = none
  dp : A.depth + 3 * k + 5 < recursionLimit
  un : A.units + 16 * k + 200 < cLine
theorem Room.mono {j k : Nat} {A : Around} (r : Room k A) (h : j ≤ k) : Room j A := ⟨r.hd, by have := r.dp; omega, by have := r.un; omega⟩
theorem Room.deeper {k : Nat} {A : Around} (r : Room (k + 1) A) (env : Env) : Room k (A.deeper env) :=
  ⟨r.hd, by have := r.dp; show A.depth + 1 + 3 * k + 5 < _; omega, by have := r.un; show A.units + 3 + 16 * k + 200 < _; omega⟩
theorem Room.in1 {k : Nat} {A : Around} (r : Room (k + 1) A) : Room k A.in1 :=
  ⟨r.hd, by have := r.dp; show A.depth + 3 * k + 5 < _; omega, by have := r.un; show A.units + 1 + 16 * k + 200 < _; omega⟩
theorem Room.depth {k : Nat} {A : Around} (r : Room k A) : A.depth < recursionLimit := by have := r.dp; omega
theorem Room.units {k : Nat} {A : Around} (r : Room k A) : A.units + 64 < cLine := by have := r.un; omega
/-! ### argument lists and displays -/
noncomputable def tNil : TA := fun _ H Q => Q [] H
noncomputable def tCons (ta : TE) (tr : TA) : TA := fun σ H Q => ta σ H fun x H1 => tr σ H1 fun xs H2 => Q (x :: xs) H2
section
variable {X : Cx} {e : Expr} {es : List Expr} {te : TE} {t : TA} {pos : Pos}
theorem pa_nil : PA X [] tNil := fun _ _ _ _ H Q I h => Calls.spliced_nil ⟨[], H, I, .nil, h⟩
theorem pa_cons (ha : PE X e te) (hr : PA X es t) (hs : starEach (e :: es) X.env = (false, eval e X.env) :: starEach es X.env := by rfl) : PA X (e :: es) (tCons te t) := by
  intro pos pins s σ H Q I h
  rw [hs]
  show wpAny _ _ (spliced ((false, eval e X.env) :: backTo pos (starEach es X.env))) _ _ s
  refine Calls.spliced_cons (thn (ha pins s σ H _ I h) fun u s1 ⟨x, H1, I1, r1, q1⟩ => ?_)
  exact thn (hr pos pins s1 σ H1 _ I1 q1) fun us s2 ⟨xs, H2, I2, r2, q2⟩ => ⟨x :: xs, H2, I2, .cons r1 r2, q2⟩

/-- a tuple, a list of written items -/
noncomputable def tTup (t : TA) : TE := fun σ H Q => t σ H fun xs H1 => xs.length ≤ sizeLine ∧ ∀ p, H1 p = none → Q (.ref p) (upd H1 p (.tup xs))
noncomputable def tLst (t : TA) : TE := fun σ H Q => t σ H fun xs H1 => xs.length ≤ sizeLine ∧ ∀ p, H1 p = none → Q (.ref p) (upd H1 p (.lst xs))
theorem pe_tup {x1} (h : PA X es t) : PE X (.Tuple es x1 pos) (tTup t) := by
  intro pins s σ H Q I hq
  refine wpAny_Tuple_spliced (thn (h pos pins s σ H _ I hq) fun us s1 ⟨xs, H1, I1, r, z, q⟩ => ⟨by rw [← r.length]; exact z, ?_⟩)
  have hf : H1 s1.heap.objs.size = none := I1.hok.fresh (Nat.le_refl _)
  refine ⟨.ref s1.heap.objs.size, upd H1 s1.heap.objs.size (.tup xs), I1.laid (t' := s1.toks) (fun b u e => Heap.get?_push_of_some _ e) (Nat.le_refl _) ?_, rfl, q _ hf⟩
  exact ⟨z, us, r, ⟨_, Heap.get?_push_size _ rfl, rfl, _, rfl⟩⟩
theorem pe_lst (h : PA X es t) : PE X (.List es pos) (tLst t) := by
  intro pins s σ H Q I hq
  refine wpAny_List_spliced (thn (h pos pins s σ H _ I hq) fun us s1 ⟨xs, H1, I1, r, z, q⟩ => ⟨by rw [← r.length]; exact z, ?_⟩)
  have hf : H1 s1.heap.objs.size = none := I1.hok.fresh (Nat.le_refl _)
  refine ⟨.ref s1.heap.objs.size, upd H1 s1.heap.objs.size (.lst xs), I1.laid (t' := s1.toks) (fun b u e => Heap.get?_push_of_some _ e) (Nat.le_refl _) ?_, rfl, q _ hf⟩
  exact ⟨z, us, 0, r, Heap.get?_push_size _ rfl⟩
end

/-! ### what a def promises -/
/-- a def's promise: the bound arguments in the parameters' order, the heap, the wanted end, the wanted exception -/
noncomputable abbrev Sp := List V → Hp → VK → XK → Prop
/-- how an exception lies behind a call (file 08 gives it): the callers' frames, abstract heap and state ahead of the call, the wish, the exception, the state -/
noncomputable abbrev CXT := List Env → Hp → Shared → XK → Value → Shared → Prop

/-- the state at a call -/
structure Env0 (P : Program) (w : World) (K : PySem.W.Frag) (mg : Str → Option Value) (base : Heap) (A : Around) (outer : List Env) (s : Shared) (H : Hp) : Prop where
  frames : A.frames = some outer
  mod : Mod K mg base
  bs : ∀ b o, base.get? b = some o → s.heap.get? b = some o ∧ H b = none
  bsz : base.objs.size ≤ s.heap.objs.size
  funs : s.heap.FunFrames base outer
  frf : ∀ b ∈ frs outer, H b = none
  hok : HOk P w H s.heap
  bare : AllBare s.gens
/-- a call's end -/
noncomputable def CE (outer : List Env) (P : Program) (w : World) (H : Hp) (s : Shared) (Q : VK) (u : Value) (s' : Shared) : Prop :=
  ∃ v H', s'.os = s.os ∧ AllBare s'.gens ∧ Un (frs outer) [] H H' s.heap s'.heap ∧ HOk P w H' s'.heap ∧ RelV v u ∧ Q v H'
noncomputable def CR (CX : CXT) (outer : List Env) (P : Program) (w : World) (H : Hp) (s : Shared) (Q : VK) (E : XK) (r : Result) (s' : Shared) : Prop :=
  match r with
  | .ok (.ret u) => CE outer P w H s Q u s'
  | .ok _ => False
  | .error e => CX outer H s E e s'
structure FnOk (P : Program) (w : World) (K : PySem.W.Frag) (mg : Str → Option Value) (base : Heap) (CX : CXT) (k : Nat) (f : Addr) (fd : FuncData) (ps : List Str) (sp : Sp) : Prop where
  len : ∀ vs H Q E, sp vs H Q E → vs.length = ps.length
  run : ∀ (A : Around) (outer : List Env) (s : Shared) (H : Hp) (args : Args) (us : List Value) (vs : List V) (Q : VK) (E : XK), Room k A → Env0 P w K mg base A outer s H → BindsTo s fd args (ps.zip us) → Vals vs us → sp vs H Q E →
    codeAny (model P w) A (.call (.ref f) args) (CR CX outer P w H s Q E) s
theorem Env0.in1 {P : Program} {w : World} {K : PySem.W.Frag} {mg : Str → Option Value} {base : Heap} {A : Around} {outer : List Env} {s : Shared} {H : Hp} (e : Env0 P w K mg base A outer s H) :
    Env0 P w K mg base A.in1 outer s H := ⟨e.frames, e.mod, e.bs, e.bsz, e.funs, e.frf, e.hok, e.bare⟩

section
variable {X : Cx} {pins : List (Addr × Obj)} {σ : St} {H : Hp} {s s' : Shared}
/-- from a body: what a callee wants -/
theorem Inv.env0 (I : Inv X pins σ H s) : Env0 X.prog X.w X.K X.mg X.base X.A X.stack s H :=
  ⟨I.ok.frames, I.ok.mod, I.bs, Nat.le_trans I.ok.bsz I.sz, I.stack, I.stkFree, I.hok, I.bare⟩
/-- behind a call -/
theorem Inv.after {Q : VK} {u : Value} (I : Inv X pins σ H s) (h : CE X.stack X.prog X.w H s Q u s') : EP X pins σ Q u s' := by
  obtain ⟨v, H', os, bare, un, hok, r, q⟩ := h
  obtain ⟨hh, g, d, t, os'⟩ := s'
  obtain rfl : os' = s.os := os
  exact ⟨v, H', I.call (h' := hh) (g' := g) (d' := d) (t' := t) (ch := []) un hok bare (fun b z => absurd z (by simp)), r, q⟩
end

/-! ### calls -/
/-- f(..): the written arguments, then the defaults dvs; E: what is wanted of an exception -/
noncomputable def tCall (sp : Sp) (dvs : List V) (E : XK) (t : TA) : TE := fun σ H Q => t σ H fun vs H1 => sp (vs ++ dvs) H1 Q E
/-- how the parameters are bound: us the positional arguments, kw the keywords' values by name, ds the defaults that fill up -/
noncomputable def Binds (K : PySem.W.Frag) (fd : FuncData) (ps : List Str) (ds : List Value) : Prop :=
  ∀ (s : Shared) (us : List Value), K.In s.heap → (us ++ ds).length = ps.length → BindsTo s fd ⟨us, []⟩ (ps.zip (us ++ ds))
/-- every parameter is given -/
theorem Binds.all {K : PySem.W.Frag} {fd : FuncData} {ps : List Str} (h : ∀ us : List Value, us.length = ps.length → bindArgs fd ⟨us, []⟩ = pure (ps.zip us)) : Binds K fd ps [] := fun s us _ hl => by
  rw [List.append_nil] at hl ⊢
  exact .of_eq (h us hl)

/-- an exception of a callee reaches what this body wants of exceptions -/
noncomputable def Passes (CX : CXT) (X : Cx) (E : XK) : Prop := ∀ (pins : List (Addr × Obj)) (σ : St) (H : Hp) (s : Shared) (e : Value) (s' : Shared), Inv X pins σ H s → CX X.stack H s E e s' → X.xe e s'

section
variable {X : Cx} {CX : CXT} {k : Nat} {f C : Addr} {fd : FuncData} {ps : List Str} {sp : Sp} {dvs : List V} {ds : List Value} {E : XK} {x m : Str} {p pos apos : Pos} {e o : Expr} {es : List Expr} {ta : TE} {t : TA}

/-- the callee runs -/
theorem run_fn {pins : List (Addr × Obj)} {σ : St} {H : Hp} {s : Shared} {Q : VK} {us : List Value} {vs : List V} (F : FnOk X.prog X.w X.K X.mg X.base CX k f fd ps sp) (hr : Room k X.A) (hb : Binds X.K fd ps ds) (hd : Vals dvs ds) (hx : Passes CX X E)
    (I : Inv X pins σ H s) (r : Vals vs us) (h : sp (vs ++ dvs) H Q E) : wpAny (model X.prog X.w) X.A (call (.ref f) us) (EP X pins σ Q) X.xe s := by
  have r2 : Vals (vs ++ dvs) (us ++ ds) := r.append hd
  have hl : (us ++ ds).length = ps.length := by rw [← r2.length]; exact F.len _ _ _ _ h
  refine wpAny_call (codeAny_mono (F.run X.A X.stack s H ⟨us, []⟩ (us ++ ds) (vs ++ dvs) Q E hr I.env0 (hb s us I.kIn hl) r2 h) fun r s' hq => ?_)
  cases r with
  | error e => exact hx pins σ H s e s' I hq
  | ok fl =>
    cases fl with
    | ret u => exact I.after hq
    | next => exact False.elim hq
    | brk => exact False.elim hq
    | cont => exact False.elim hq

theorem pe_call (F : FnOk X.prog X.w X.K X.mg X.base CX k f fd ps sp) (hr : Room k X.A) (hg : Gl X x) (hm : X.mg x = some (.ref f)) (hk : PySem.W.keepIn X.K (.ref f) = true) (hb : Binds X.K fd ps ds) (hd : Vals dvs ds) (hx : Passes CX X E)
    (ha : PA X (e :: es) t) (hdb : (x == ("__debug__" : Str)) = false := by decide) (he : starEach (e :: es) X.env = (false, eval e X.env) :: starEach es X.env := by rfl) (hpl : (backTo pos (starEach es X.env)).any (·.1) = false := by rfl) :
    PE X (.Call (.Name x p) (e :: es) [] pos) (tCall sp dvs E t) := by
  intro pins s σ H Q I h
  refine wpAny_Call_Name_kw (ld_glob I hg hm ?_ hdb)
  refine PySem.W.callWith_K (h₀ := X.base) I.ok.mod.kin hk (thn (ha pos pins s σ H _ I h) fun us s1 ⟨vs, H1, I1, r, q⟩ => ⟨I1.kIn, ?_⟩) he hpl
  exact run_fn F hr hb hd hx I1 r q
end

/-! ### keywords -/
section
variable {X : Cx} {CX : CXT} {k : Nat} {f C : Addr} {fd : FuncData} {ps ks : List Str} {sp : Sp} {E : XK} {x m : Str} {p pos apos kpos : Pos} {e o : Expr} {es : List Expr} {kws : List Keyword} {te ta : TE} {t tk : TA} {nm : Option Str}
variable {g : List Value → List Value → List Value} {gV : List V → List V → List V}
end

/-! ### a def's body keeps its promise -/
/-- names: the parameters first -/
structure FnScope (N P : List Str) (sc : Scope) : Prop where
  kind : sc.kind = .function
  co : sc.isCoroutine = false
  gen : sc.isGenerator = false
  nd : N.Nodup
  pre : N.take P.length = P
  par : ∀ x ∈ P, sc.names.lookup x = some .local ∨ sc.names.lookup x = some .cell
  nofree : ∀ y ∈ sc.names, y.2 ≠ .free

theorem bindL_out {kindOf : Str → Option NameKind} {x : Str} : ∀ {binds : List (Str × Value)} {m : Str → Option Value}, (∀ v, (x, v) ∉ binds) → bindL kindOf binds m x = m x
  | [], _, _ => rfl
  | (n, v) :: r, m, h => by
    unfold bindL
    rw [bindL_out fun w hw => h w (List.mem_cons_of_mem _ hw)]
    split
    · have : x ≠ n := by rintro rfl; exact h v List.mem_cons_self
      simp [this]
    · rfl
theorem bindC_out {kindOf : Str → Option NameKind} {x : Str} : ∀ {binds : List (Str × Value)} {m : Str → Option Value}, (∀ v, (x, v) ∉ binds) → bindC kindOf binds m x = m x
  | [], _, _ => rfl
  | (n, v) :: r, m, h => by
    unfold bindC
    rw [bindC_out fun w hw => h w (List.mem_cons_of_mem _ hw)]
    split
    · rfl
    · have : x ≠ n := by rintro rfl; exact h v List.mem_cons_self
      simp [this]
theorem bindL_get {kindOf : Str → Option NameKind} {x : Str} {v : Value} : ∀ {P : List Str} {vs : List Value} {i : Nat} {m : Str → Option Value}, P.Nodup → P[i]? = some x → vs[i]? = some v → kindOf x = some .local →
    bindL kindOf (P.zip vs) m x = some v
  | [], _, _, _, _, h, _, _ => by simp at h
  | _ :: _, [], _, _, _, _, h, _ => by simp at h
  | p :: P, w :: vs, 0, m, nd, h1, h2, hk => by
    simp at h1 h2; subst h1; subst h2
    show bindL kindOf ((p, w) :: P.zip vs) m p = _
    unfold bindL
    rw [bindL_out fun v hv => (List.nodup_cons.mp nd).1 (List.of_mem_zip hv).1, if_pos hk]
    simp
  | p :: P, w :: vs, i + 1, m, nd, h1, h2, hk => by
    show bindL kindOf ((p, w) :: P.zip vs) m x = _
    unfold bindL
    exact bindL_get (i := i) (List.nodup_cons.mp nd).2 (by simpa using h1) (by simpa using h2) hk
theorem bindC_get {kindOf : Str → Option NameKind} {x : Str} {v : Value} : ∀ {P : List Str} {vs : List Value} {i : Nat} {m : Str → Option Value}, P.Nodup → P[i]? = some x → vs[i]? = some v → kindOf x ≠ some .local →
    bindC kindOf (P.zip vs) m x = some v
  | [], _, _, _, _, h, _, _ => by simp at h
  | _ :: _, [], _, _, _, _, h, _ => by simp at h
  | p :: P, w :: vs, 0, m, nd, h1, h2, hk => by
    simp at h1 h2; subst h1; subst h2
    show bindC kindOf ((p, w) :: P.zip vs) m p = _
    unfold bindC
    rw [bindC_out fun v hv => (List.nodup_cons.mp nd).1 (List.of_mem_zip hv).1, if_neg hk]
    simp
  | p :: P, w :: vs, i + 1, m, nd, h1, h2, hk => by
    show bindC kindOf ((p, w) :: P.zip vs) m x = _
    unfold bindC
    exact bindC_get (i := i) (List.nodup_cons.mp nd).2 (by simpa using h1) (by simpa using h2) hk

/-- the names' values at the entry -/
noncomputable def start (N : List Str) (vs : List V) : St := vs.map some ++ List.replicate (N.length - vs.length) none

/-- the context of a def's body, at its entry; an exception leaves the frame, then lies as CX says -/
noncomputable def cxOf (CX : CXT) (P : Program) (w : World) (K : PySem.W.Frag) (mg : Str → Option Value) (base : Heap) (N : List Str) (qual : Str) (scope : Scope) (f : Addr) (cd : Value) (A : Around) (outer : List Env) (s : Shared) (H : Hp) (E : XK) : Cx where
  prog := P
  w := w
  K := K
  mg := mg
  base := base
  A := A.deeper (envOfC qual scope s.heap.objs.size f cd)
  N := N
  s₀ := s
  H₀ := H
  env := envOfC qual scope s.heap.objs.size f cd
  outer := outer
  stack := envOfC qual scope s.heap.objs.size f cd :: outer
  ex := []
  calm := true
  fn := fun _ => true
  pn := []
  xe := fun e s' => wpAny (model P w) (A.deeper (envOfC qual scope s.heap.objs.size f cd)) (leaving (envOfC qual scope s.heap.objs.size f cd) e) (fun _ s'' => CX outer H s E e s'') (fun e' s'' => CX outer H s E e' s'') s'

theorem cell_has {sc : Scope} {n : Nat} {x : Str} (h : sc.names.lookup x = some .cell) : ∃ c, (cellsFrom n sc.names []).lookup x = some c := by
  have q := PySem.W.cellsFrom_some sc.names n [] (.inl h)
  exact Option.isSome_iff_exists.mp q

theorem inv_start {CX : CXT} {P : Program} {w : World} {K : PySem.W.Frag} {mg : Str → Option Value} {base : Heap} {N ps : List Str} {qual : Str} {scope : Scope} {f : Addr} {cd : Value} {A : Around} {outer : List Env} {s s1 : Shared} {H : Hp} {E : XK} {us : List Value} {vs : List V}
    (S : FnScope N ps scope) (hd : A.handled = none) (e0 : Env0 P w K mg base A outer s H) (hl : vs.length = ps.length) (r : Vals vs us)
    (x : InCallC s s.heap.objs.size (bindL (envOfC qual scope s.heap.objs.size f cd).kindOf (ps.zip us) fun _ => none) (cellsFrom (s.heap.objs.size + 1) scope.names []) (bindC (envOfC qual scope s.heap.objs.size f cd).kindOf (ps.zip us) fun _ => none) s1) :
    Inv (cxOf CX P w K mg base N qual scope f cd A outer s H E) [] (start N vs) H s1 := by
  have hpl : ps.length ≤ N.length := by have := congrArg List.length S.pre; rw [List.length_take] at this; omega
  obtain ⟨h1, tk, rfl, hk⟩ := x.done
  have noA : ∀ b : Addr, b ∉ (cxOf CX P w K mg base N qual scope f cd A outer s H E).ex := fun b z => absurd (show b ∈ ([] : List Addr) from z) (by simp)
  refine ⟨⟨e0.mod, S.kind, rfl, rfl, Nat.le_refl _, fun y z c h1 h2 => ?_, fun y hy => ?_, fun y c _ h => ?_, fun _ => hd, Around.frames_deeper e0.frames, .inr ⟨rfl, rfl⟩, fun b z => absurd z (noA b), e0.bs, e0.bsz, fun b _ _ => noA b, fun b z => absurd z (noA b), e0.funs, e0.frf⟩,
    rfl, e0.bare, Un.kept hk, ⟨_, x.toInCall.ns, fun i y v h1 h2 h3 => ?_⟩, fun y c h => ⟨_, x.cell y c h⟩, e0.hok.fresh (Nat.le_refl _), fun y c h => ?_, fun p hp => absurd (show p ∈ ([] : List (Addr × Obj)) from hp) (by simp), e0.hok.kept hk, ?_⟩
  · exact name_of_addr x.apart (PySem.mem_of_lookup h1) (PySem.mem_of_lookup h2)
  · have hy : scope.names.lookup y = some .cell ∨ scope.names.lookup y = some .free := hy
    rcases hy with hy | hy
    · exact cell_has hy
    · exact absurd rfl (S.nofree _ (PySem.mem_of_lookup hy))
  · exact Nat.le_of_lt (x.above y c (PySem.mem_of_lookup h))
  · have hi : i < vs.length := by
      unfold start at h2
      by_cases hi : i < vs.length
      · exact hi
      · rw [List.getElem?_append_right (by simpa using hi)] at h2
        rw [List.getElem?_replicate] at h2
        split at h2 <;> cases h2
    have ha : vs[i]? = some v := by
      unfold start at h2
      rw [List.getElem?_append_left (by simpa using hi), List.getElem?_map] at h2
      cases e : vs[i]? with
      | none => rw [e] at h2; cases h2
      | some a => rw [e] at h2; cases h2; rfl
    obtain ⟨u, hu, rv⟩ := r.get ha
    have hp : ps[i]? = some y := by
      rw [← S.pre, List.getElem?_take_of_lt (by omega)]; exact h1
    have ndP : ps.Nodup := by rw [← S.pre]; exact S.nd.sublist (List.take_sublist _ _)
    refine ⟨u, rv, ?_⟩
    rcases S.par y (List.mem_of_getElem? hp) with k | k
    · exact .inl ⟨k, bindL_get ndP hp hu k⟩
    · obtain ⟨c, e⟩ := cell_has (n := s.heap.objs.size + 1) k
      refine .inr ⟨.inl k, c, e, ?_⟩
      have q := x.cell y c e
      rw [bindC_get ndP hp hu (by show scope.names.lookup y ≠ _; rw [k]; decide)] at q
      exact q
  · exact e0.hok.fresh (Nat.le_of_lt (x.above y c (PySem.mem_of_lookup h)))
  · unfold start
    show _ = N.length
    rw [List.length_append, List.length_map, List.length_replicate]
    omega

/-- THE RULE: a def (or a method) of the text, by its body. The body's reading t is chosen for each entry; it is run at the parameters' values -/
theorem fn_of {CX : CXT} {P : Program} {w : World} {K : PySem.W.Frag} {mg : Str → Option Value} {base : Heap} {k : Nat} {f : Addr} {name qual : Str} {params : Arguments} {body : List Stmt} {scope : Scope} {dV kV doc pm cdv ct oc : Value} {an od : Option Addr}
    {osl : Array (Option Value)} {N ps : List Str} {sp : Sp} (lk : K.lookup f = some ⟨oc, od, .func (PySem.W.fnOf name qual params body scope dV kV doc pm an cdv ct), osl⟩) (hcd : PySem.W.codeIn K cdv qual = true) (S : FnScope N ps scope)
    (len : ∀ vs H Q E, sp vs H Q E → vs.length = ps.length)
    (hbody : ∀ (A : Around) (outer : List Env) (s : Shared) (H : Hp) (vs : List V) (Q : VK) (E : XK), Room k (A.deeper (envOfC qual scope s.heap.objs.size f cdv)) → sp vs H Q E →
      ∃ t, PSs (cxOf CX P w K mg base N qual scope f cdv A outer s H E) body t ∧ t { nx := fun _ H' => Q .non H', rt := Q } (start N vs) H) :
    FnOk P w K mg base CX (k + 1) f (PySem.W.fnOf name qual params body scope dV kV doc pm an cdv ct) ps sp := by
  refine ⟨len, fun A outer s H args us vs Q E hr e0 hb r hsp => ?_⟩
  have hl := len _ _ _ _ hsp
  have KX : K.In s.heap := e0.mod.kin.keeps fun b o e => (e0.bs b o e).1
  have lim : s.heap.NoLimit := e0.mod.nolimit.keeps fun b o e => (e0.bs b o e).1
  have hkind : ∀ y ∈ ps.zip us, scope.names.lookup y.1 = some .local ∨ (scope.names.lookup y.1 = some .cell ∧ ((cellsFrom (s.heap.objs.size + 1) scope.names []).lookup y.1).isSome = true) := fun ⟨n, v⟩ hy => by
    rcases S.par n (List.of_mem_zip hy).1 with q | q
    · exact .inl q
    · exact .inr ⟨q, PySem.W.cellsFrom_some _ _ _ (.inl q)⟩
  refine codeAny_call_function hr.depth (KX _ _ lk) rfl S.co S.gen rfl (PySem.W.codeRec_of KX hcd) (hb _ _ _ _ ?_)
  refine wpAny_newFunctionEnv_cells S.kind hkind fun env he s1 x => ?_
  subst he
  refine ⟨lim.keeps x.toInCall.keep, codeAny_func ?_⟩
  obtain ⟨t, ht, hq⟩ := hbody A outer s H vs Q E (hr.deeper _) hsp
  have I : Inv (cxOf CX P w K mg base N qual scope f cdv A outer s H E) [] (start N vs) H s1 := inv_start S hr.hd e0 hl r x
  refine wpAny_mono (ht [] s1 (start N vs) H _ I hq) (fun fl s' hs => ?_) fun e s' hs => hs
  have fin : ∀ {σ' : St} {H' : Hp} {v : V} {u : Value}, Inv (cxOf CX P w K mg base N qual scope f cdv A outer s H E) [] σ' H' s' → RelV v u → Q v H' → CE outer P w H s Q u s' :=
    fun {σ' H' v u} J rv q => ⟨v, H', J.os, J.bare, J.base, J.hok, rv, q⟩
  cases fl with
  | ret u =>
    obtain ⟨v, σ', H', J, rv, q⟩ := hs
    exact fin J rv q
  | next =>
    obtain ⟨σ', H', J, q⟩ := hs
    exact fin (v := V.non) (u := Value.none) J rfl q
  | brk =>
    obtain ⟨_, _, _, q⟩ := hs
    exact False.elim q
  | cont =>
    obtain ⟨_, _, _, q⟩ := hs
    exact False.elim q
end L2

namespace L2
open PySem PySem.Spec PyProof.Rows
section
variable {X : Cx} {x : Str} {p pos : Pos} {e : Expr} {es : List Expr} {t : TA} {id T : String} {r : List V → Hp → VK → Prop}

noncomputable def tCB (r : List V → Hp → VK → Prop) (t : TA) : TE := fun σ H Q => t σ H fun vs H1 => r vs H1 Q
/-- f(e, ..), f a built-in function -/
theorem pe_callB (hc : CallR X (.builtin id) r) (hg : Gl X x) (hm : X.mg x = none) (hv : bootBuiltins x = some (.builtin id)) (ha : PA X (e :: es) t) (hn : x ≠ "__name__" := by decide) (hdb : (x == ("__debug__" : Str)) = false := by decide)
    (he : starEach (e :: es) X.env = (false, eval e X.env) :: starEach es X.env := by rfl) (hpl : (backTo pos (starEach es X.env)).any (·.1) = false := by rfl) : PE X (.Call (.Name x p) (e :: es) [] pos) (tCB r t) := by
  intro pins s σ H Q I h
  refine wpAny_Call_Name_kw (ld_blt I hg hm hv ?_ hn hdb)
  exact PyProof.Rows.callWith_builtin1 (thn (ha pos pins s σ H _ I h) fun us s1 ⟨vs, H1, I1, r1, q1⟩ => hc pins s1 σ H1 vs us Q I1 r1 q1) he hpl
/-- T(e, ..), T a built-in type -/
theorem pe_callTy (hc : CallR X (.type T) r) (hg : Gl X x) (hm : X.mg x = none) (hv : bootBuiltins x = some (.type T)) (ha : PA X (e :: es) t) (hn : x ≠ "__name__" := by decide) (hdb : (x == ("__debug__" : Str)) = false := by decide)
    (he : starEach (e :: es) X.env = (false, eval e X.env) :: starEach es X.env := by rfl) (hpl : (backTo pos (starEach es X.env)).any (·.1) = false := by rfl) : PE X (.Call (.Name x p) (e :: es) [] pos) (tCB r t) := by
  intro pins s σ H Q I h
  refine wpAny_Call_Name_kw (ld_blt I hg hm hv ?_ hn hdb)
  exact PyProof.Rows.callWith_type1 (thn (ha pos pins s σ H _ I h) fun us s1 ⟨vs, H1, I1, r1, q1⟩ => hc pins s1 σ H1 vs us Q I1 r1 q1) he hpl
end
end L2

namespace HT
open PySem PyProof.Rows

section
open PySem.SeqAt
open PySem.AutoSeq1 (wpAny_loadPart')
open PySem.MeetsSeq PySem.MeetsSeq2 PySem.MeetsSeq3

end

section
variable {prog : Program} {w : World} {A : Around} {E : Value → Shared → Prop} {s : Shared}

/-- t + u, t not empty -/
theorem cat_tup {t b : Addr} {vs ws : List Value} {Q : Value → Shared → Prop} (ht : IsTup s.heap t vs.toArray) (hb : IsTup s.heap b ws.toArray) (hv : vs ≠ [])
    (h1 : ws = [] → Q (.ref t) s) (h2 : ws ≠ [] → Q (.ref s.heap.objs.size) { s with heap := s.heap.push { cls := .type "tuple", data := .seq (vs ++ ws).toArray } })
    (hsz : vs.length + ws.length ≤ sizeLine) : wpAny (model prog w) A (binaryOp .Add (.ref t) (.ref b)) Q E s := by
  obtain ⟨⟨cls, dd, data, sl⟩, ho, hc, n, hd⟩ := id ht
  obtain ⟨⟨cls2, dd2, data2, sl2⟩, ho2, hc2, n2, hd2⟩ := id hb
  simp only at hc hd hc2 hd2
  subst hc hd hc2 hd2
  have e : vs.toArray ++ ws.toArray = (vs ++ ws).toArray := by simp
  by_cases hw : ws = []
  · exact concat_meets ⟨_, ho, rfl⟩ ⟨_, ho2, rfl⟩ noFill_tuple_add seq_tuple_add PySem.F.slot_tuple_add PySem.F.entry_tuple_add (PySem.F.args_tuple_add_2 _ _)
      (tuple_addW1 t b vs.toArray ws.toArray n n2 dd dd2 sl sl2 (by simpa using hv) (by simp [hw])) ⟨ho, ho2, h1 hw⟩
  · refine concat_meets ⟨_, ho, rfl⟩ ⟨_, ho2, rfl⟩ noFill_tuple_add seq_tuple_add PySem.F.slot_tuple_add PySem.F.entry_tuple_add (PySem.F.args_tuple_add_2 _ _)
      (tuple_addW2 t b vs.toArray ws.toArray n n2 dd dd2 sl sl2 (by simpa using hv) (by simpa using hw) (by rw [List.size_toArray, List.size_toArray]; exact hsz)) ⟨ho, ho2, ?_⟩
    rw [e]
    exact h2 hw

/-! ### t[a:b], not the whole -/
/-- a slice's bound as a place among n (d where it is left out) -/
noncomputable def sIx (n d : Nat) : Option Int → Nat
  | none => d
  | some v => if v < 0 then (v + (n : Int)).toNat else min v.toNat n
theorem sIx_none (n d : Nat) : sIx n d none = d := rfl
theorem sIx_nat (n d k : Nat) : sIx n d (some (k : Int)) = min k n := by
  show (if (k : Int) < 0 then ((k : Int) + (n : Int)).toNat else min (k : Int).toNat n) = min k n
  rw [if_neg (by omega), Int.toNat_natCast]
theorem sIx_le (n d : Nat) (hd : d ≤ n) (o : Option Int) : sIx n d o ≤ n := by
  cases o with
  | none => exact hd
  | some v =>
    show (if v < 0 then (v + (n : Int)).toNat else min v.toNat n) ≤ n
    by_cases hv : v < 0
    · rw [if_pos hv]; omega
    · rw [if_neg hv]; exact Nat.min_le_right _ _
theorem clip_eq (v : Int) (n d : Nat) : (if v < 0 then max (v + (n : Int)) 0 else min v (n : Int)) = ((sIx n d (some v) : Nat) : Int) := by
  show (if v < 0 then max (v + (n : Int)) 0 else min v (n : Int)) = (((if v < 0 then (v + (n : Int)).toNat else min v.toNat n) : Nat) : Int)
  by_cases hv : v < 0
  · simp only [if_pos hv]; omega
  · simp only [if_neg hv]; omega
theorem adjust_gen (lo hi : Option Int) (n : Nat) : Builtin.Slice.sliceAdjust lo hi 1 (n : Int) = (((sIx n 0 lo : Nat) : Int), ((sIx n n hi : Nat) : Int)) := by
  have h1 : ¬ ((1 : Int) < 0) := by omega
  unfold Builtin.Slice.sliceAdjust
  simp only [h1, if_false]
  refine Prod.ext ?_ ?_
  · cases lo with
    | none => rfl
    | some v => exact clip_eq v n 0
  · cases hi with
    | none => rfl
    | some v => exact clip_eq v n n
theorem places_gen (i j : Nat) : Builtin.Slice.slicePlaces (i : Int) (j : Int) 1 = j - i := by
  unfold Builtin.Slice.slicePlaces
  have h1 : (1 : Int) > 0 := by omega
  simp only [h1, if_true, Int.ediv_one]
  split <;> omega
theorem slicePart_ {v : Value} {o : Option Int} {Q : Option Int → Shared → Prop} (p : IsPart v o) (h : Q o s) : wpAny (model prog w) A (Builtin.Slice.slicePartIndex v) Q E s := by
  cases p with
  | none => exact slicePart_none h
  | int i t => exact slicePart_int h
theorem sliceApplied_gen {sl : Addr} {vl vu : Value} {lo hi : Option Int} {n : Nat} {Q : Int × Int × Nat → Shared → Prop} (hs : s.heap.IsSliceOf sl vl vu .none) (pl : IsPart vl lo) (pu : IsPart vu hi)
    (h : Q (((sIx n 0 lo : Nat) : Int), 1, sIx n n hi - sIx n 0 lo) s) : wpAny (model prog w) A (Builtin.Slice.sliceApplied (.ref sl) (pure (n : Int))) Q E s := by
  obtain ⟨os, hos, hcs, hds⟩ := id hs
  unfold Builtin.Slice.sliceApplied Builtin.Slice.sliceFields
  refine wpAny_bind (wpAny_bind (wpAny_field hos hds (x := vl) rfl (wpAny_bind (wpAny_field hos hds (x := vu) rfl (wpAny_bind (wpAny_field hos hds (x := .none) rfl (wpAny_pure ?_)))))))
  refine wpAny_bind (slicePart_none ?_)
  show wpAny _ _ (if ((1 : Int) == 0) = true then _ else _) _ _ s
  rw [if_neg (by decide)]
  refine wpAny_bind (slicePart_ pl (wpAny_bind (slicePart_ pu (wpAny_bind (wpAny_pure ?_)))))
  show wpAny _ _ (match Builtin.Slice.sliceAdjust lo hi 1 (n : Int) with | (lo, hi) => pure (lo, (1 : Int), Builtin.Slice.slicePlaces lo hi 1)) _ _ s
  rw [adjust_gen lo hi n]
  show wpAny _ _ (pure (((sIx n 0 lo : Nat) : Int), (1 : Int), Builtin.Slice.slicePlaces ((sIx n 0 lo : Nat) : Int) ((sIx n n hi : Nat) : Int) 1)) _ _ s
  rw [places_gen]
  exact wpAny_pure h
theorem pick_gen (xs : Array Value) (i k : Nat) : ((List.range k).filterMap fun (m : Nat) => xs[((i : Int) + (m : Int) * 1).toNat]?).toArray = ((xs.toList.drop i).take k).toArray := by
  have e : (fun (m : Nat) => xs[((i : Int) + (m : Int) * 1).toNat]?) = fun m => xs[i + m]? := by
    funext m
    have : ((i : Int) + (m : Int) * 1).toNat = i + m := by omega
    rw [this]
  rw [e]
  have := pick_run xs i k
  rw [List.filterMap_map] at this
  have e2 : ((fun x => xs[x]?) ∘ fun x => i + x) = fun m => xs[i + m]? := rfl
  rw [e2] at this
  rw [this]

theorem getItem_tuple_cut {t sl : Addr} {items : Array Value} {vl vu : Value} {lo hi : Option Int} {Q : Value → Shared → Prop} (ht : IsTup s.heap t items) (hs : s.heap.IsSliceOf sl vl vu .none) (pl : IsPart vl lo) (pu : IsPart vu hi)
    (hw : ¬ (sIx items.size 0 lo = 0 ∧ sIx items.size items.size hi = items.size))
    (h : Q (.ref s.heap.objs.size) { s with heap := s.heap.push { cls := .type "tuple", data := .seq ((items.toList.drop (sIx items.size 0 lo)).take (sIx items.size items.size hi - sIx items.size 0 lo)).toArray } })
    (hsz : items.size ≤ sizeLine) : wpAny (model prog w) A (getItem (.ref t) (.ref sl)) Q E s := by
  have htake : sizeOk (.seq ((items.toList.drop (sIx items.size 0 lo)).take (sIx items.size items.size hi - sIx items.size 0 lo)).toArray) := by
    show ((items.toList.drop (sIx items.size 0 lo)).take (sIx items.size items.size hi - sIx items.size 0 lo)).toArray.size ≤ sizeLine
    rw [List.size_toArray, List.length_take, List.length_drop, Array.length_toList]
    omega
  have hj : sIx items.size items.size hi ≤ items.size := sIx_le _ _ (Nat.le_refl _) hi
  obtain ⟨os, hos, hcs, hds⟩ := id hs
  have hTs : s.TypeIs (.ref sl) "slice" := ⟨os, hos, hcs⟩
  unfold getItem
  try with_reducible refine wpAny_holding ?_
  first | refine wpAny_bind (wpAny_pure ?_) | skip
  refine wpAny_bind (wpAny_sequenceKey ht.typeIs (by decide) ?_)
  refine wpAny_bind (wpAny_callSpecial?_slot (name := Str.ofString "__getitem__") ht.typeIs PyProof.Rows.slot_tuple_getitem
    (wpAny_call_entry PyProof.Rows.slot_tuple_getitem ht.typeIs entry_tuple_getitem ?_ (args_tuple_getitem _ _)))
  show wpAny _ _ (Builtin.Tuple.tupleItemsOf (.ref t) >>= _) _ _ s
  refine wpAny_bind (tupleItemsOf_ ht ?_)
  refine wpAny_bind (wpAny_typeOf hTs ?_)
  rw [if_pos (by decide)]
  refine wpAny_bind (sliceApplied_gen hs pl pu ?_)
  have hno : ¬ ((((sIx items.size 0 lo : Nat) : Int) == 0 && (1 : Int) == 1 && (sIx items.size items.size hi - sIx items.size 0 lo) == items.size) = true) := by
    intro q
    rw [Bool.and_eq_true, Bool.and_eq_true] at q
    have q1 : ((sIx items.size 0 lo : Nat) : Int) = 0 := eq_of_beq q.1.1
    have q2 : sIx items.size items.size hi - sIx items.size 0 lo = items.size := eq_of_beq q.2
    exact hw ⟨by omega, by omega⟩
  show wpAny _ _ (if (((sIx items.size 0 lo : Nat) : Int) == 0 && (1 : Int) == 1 && (sIx items.size items.size hi - sIx items.size 0 lo) == items.size) = true then _ else _) _ _ s
  rw [if_neg hno, pick_gen]
  first
    | exact wpAny_bind (m := Builtin.Tuple.tupleExact _) (wpAny_newObj_type (wpAny_pure ⟨_, rfl, wpAny_pure h⟩) htake)
    | exact wpAny_bind (m := Builtin.Tuple.tupleExact _) (wpAny_newObj_type (wpAny_bind (wpAny_pure (wpAny_pure ⟨_, rfl, wpAny_pure h⟩))) htake)
    | exact wpAny_bind (wpAny_bind (m := Builtin.Tuple.tupleExact _) (wpAny_newObj_type (wpAny_pure (wpAny_pure ⟨_, rfl, wpAny_pure h⟩)) htake))
    | exact wpAny_bind (wpAny_bind (m := Builtin.Tuple.tupleExact _) (wpAny_newObj_type (wpAny_pure ⟨_, rfl, wpAny_pure h⟩) htake))
end
end HT

namespace L2
open PySem PySem.Spec PyProof.Rows

/-! ### the parts of a slice -/
noncomputable abbrev TO := St → Hp → (Option Int → Hp → Prop) → Prop
/-- a slice's part (left out, or an int) -/
noncomputable def PO (X : Cx) (e : Option Expr) (t : TO) : Prop :=
  ∀ (pins : List (Addr × Obj)) (s : Shared) (σ : St) (H : Hp) (Q : Option Int → Hp → Prop), Inv X pins σ H s → t σ H Q →
    wpAny (model X.prog X.w) X.A (evalPart e X.env) (fun u s' => ∃ o H', Inv X pins σ H' s' ∧ IsPart u o ∧ Q o H') X.xe s
noncomputable def tNoPart : TO := fun _ H Q => Q none H
noncomputable def tPart (t : TE) : TO := fun σ H Q => t σ H fun x H1 => ∃ i, x = .int i ∧ Q (some i) H1

theorem intsAre_of {ns : List Int} : ∀ {us : List Value}, Vals (ns.map V.int) us → IntsAre us ns := by
  induction ns with
  | nil => intro us r; rw [List.map_nil] at r; cases r; exact .nil
  | cons n ns ih =>
    intro us r
    rw [List.map_cons] at r
    cases r with
    | cons r1 r2 =>
      obtain ⟨t, e⟩ := r1
      subst e
      exact .cons n t (ih r2)

section
variable {X : Cx} {e : Expr} {te : TE} {lo hi : Option Expr} {tl th : TO} {pos p2 : Pos}

theorem po_none : PO X none tNoPart := by
  intro pins s σ H Q I h
  rw [evalPart_none]
  exact wpAny_pure ⟨none, H, I, .none, h⟩
theorem po_some (h : PE X e te) : PO X (some e) (tPart te) := by
  intro pins s σ H Q I hw
  rw [evalPart_some]
  refine thn (h pins s σ H _ I hw) fun u s1 ⟨x, H1, I1, r1, q1⟩ => ?_
  obtain ⟨i, rfl, q⟩ := q1
  obtain ⟨t, rfl⟩ := r1
  exact ⟨some i, H1, I1, .int i t, q⟩

/-- what a slice of a value is, by values: the slice object stands at sl -/
noncomputable def SlR (X : Cx) (r : V → Option Int → Option Int → Hp → VK → Prop) : Prop :=
  ∀ (pins : List (Addr × Obj)) (s : Shared) (σ : St) (H : Hp) (x : V) (v vl vu : Value) (lo hi : Option Int) (sl : Addr) (Q : VK), Inv X pins σ H s → RelV x v → s.heap.IsSliceOf sl vl vu .none → IsPart vl lo → IsPart vu hi → r x lo hi H Q →
    ∃ T id, typeLookup (.type T) "__getitem__" = pure (some (.builtin id)) ∧ s.TypeIs v T ∧ wpAny (model X.prog X.w) X.A (getItem v (.ref sl)) (EP X pins σ Q) X.xe s
noncomputable def tSl (r : V → Option Int → Option Int → Hp → VK → Prop) (te : TE) (tl th : TO) : TE := fun σ H Q => te σ H fun x H1 => tl σ H1 fun l H2 => th σ H2 fun u H3 => r x l u H3 Q
/-- a[lo:hi], any a -/
theorem pe_slice {r : V → Option Int → Option Int → Hp → VK → Prop} (hr : SlR X r) (he : PE X e te) (hl : PO X lo tl) (hu : PO X hi th) : PE X (.Subscript e (.Slice lo hi none p2) pos) (tSl r te tl th) := by
  intro pins s σ H Q I h
  refine Subscript_ (thn (he pins s σ H _ I h) fun v s1 ⟨x, H1, I1, r1, q1⟩ => ?_)
  refine wpAny_Slice (thn (hl pins s1 σ H1 _ I1 q1) fun vl s2 ⟨l, H2, I2, pl, q2⟩ => thn (hu pins s2 σ H2 _ I2 q2) fun vu s3 ⟨u, H3, I3, pu, q3⟩ => ?_)
  rw [evalPart_none]
  refine wpAny_pure ?_
  have I4 : Inv X pins σ H3 { s3 with heap := s3.heap.push { cls := .type "slice", data := .fields #[vl, vu, .none] } } := I3.kept (t' := s3.toks) fun b ob q => Heap.get?_push_of_some _ q
  obtain ⟨T, id, hT, ht, hg⟩ := hr pins { s3 with heap := s3.heap.push { cls := .type "slice", data := .fields #[vl, vu, .none] } } σ H3 x v vl vu l u s3.heap.objs.size Q I4 r1 (Heap.IsSliceOf.new ..) pl pu q3
  show wpAny (model X.prog X.w) X.A (subscriptTail e (.Slice lo hi none p2) v (.ref s3.heap.objs.size)) (EP X pins σ Q) X.xe { s3 with heap := s3.heap.push { cls := .type "slice", data := .fields #[vl, vu, .none] } }
  exact tail_any (ops := [.ref s3.heap.objs.size, v]) ht hT hg (by with_unfolding_all rfl)

/-- the items of xs[lo:hi] -/
noncomputable def cutV (xs : List V) (lo hi : Option Int) : List V := (xs.drop (HT.sIx xs.length 0 lo)).take (HT.sIx xs.length xs.length hi - HT.sIx xs.length 0 lo)
theorem cutV_length (xs : List V) (lo hi : Option Int) : (cutV xs lo hi).length ≤ xs.length := by
  unfold cutV
  rw [List.length_take, List.length_drop]
  omega
/-- t[lo:hi], not the whole of it (the whole would be t itself) -/
noncomputable def rSlT (K : PySem.W.Frag) : V → Option Int → Option Int → Hp → VK → Prop := fun x lo hi H Q => ∃ a xs, x = .ref a ∧ SqT K H a xs ∧
  ¬ (HT.sIx xs.length 0 lo = 0 ∧ HT.sIx xs.length xs.length hi = xs.length) ∧ ∀ p, H p = none → Q (.ref p) (upd H p (.tup (cutV xs lo hi)))
theorem sl_tup : SlR X (rSlT X.K) := by
  intro pins s σ H x v vl vu lo hi sl Q I rx hs pl pu h
  obtain ⟨a, xs, rfl, hx, hw, q⟩ := h
  cases rx
  obtain ⟨its, r, ht, hz⟩ := I.tuple hx
  have hlen : its.toArray.size = xs.length := by rw [List.size_toArray]; exact r.length.symm
  refine ⟨"tuple", _, PyProof.Rows.slot_tuple_getitem.lookup, ht.typeIs, ?_⟩
  refine HT.getItem_tuple_cut ht hs pl pu (by rw [hlen]; exact hw) ?_ (by rw [hlen]; exact hz)
  rw [hlen]
  refine ⟨.ref s.heap.objs.size, _, I.laid (t' := s.toks) (o := .tup (cutV xs lo hi)) (fun b ob q => Heap.get?_push_of_some _ q) (Nat.le_refl _) ?_, rfl, q _ (I.hok.fresh (Nat.le_refl _))⟩
  exact ⟨Nat.le_trans (cutV_length xs lo hi) hz, _, (r.drop (HT.sIx xs.length 0 lo)).take (HT.sIx xs.length xs.length hi - HT.sIx xs.length 0 lo), IsTup.new _ _⟩

/-! ### t < u, t + u -/
/-- t + u, t not empty: u empty gives t itself -/
noncomputable def rCatT (K : PySem.W.Frag) : R2 := fun x y H Q => ∃ a b xs ys, x = .ref a ∧ y = .ref b ∧ SqT K H a xs ∧ SqT K H b ys ∧ xs ≠ [] ∧ xs.length + ys.length ≤ sizeLine ∧
  (ys = [] → Q (.ref a) H) ∧ (ys ≠ [] → ∀ p, H p = none → Q (.ref p) (upd H p (.tup (xs ++ ys))))
theorem Vals.nil_iff {xs : List V} {us : List Value} (r : Vals xs us) : us = [] ↔ xs = [] := by
  cases r with
  | nil => simp
  | cons _ _ => simp
theorem op_catT : OpR X (binaryOp .Add) (rCatT X.K) := by
  intro pins s σ H x y v u Q I rx ry h
  obtain ⟨a, b, xs, ys, rfl, rfl, ha, hb, hx, hz, q1, q2⟩ := h
  cases rx
  cases ry
  obtain ⟨its, r1, p1, _⟩ := I.tuple ha
  obtain ⟨its2, r2, p2, _⟩ := I.tuple hb
  refine HT.cat_tup p1 p2 (fun z => hx (r1.nil_iff.mp z)) (fun z => ⟨.ref a, H, I, rfl, q1 (r2.nil_iff.mp z)⟩) (fun z => ?_) (by rw [← r1.length, ← r2.length]; exact hz)
  refine ⟨.ref s.heap.objs.size, _, I.laid (t' := s.toks) (o := .tup (xs ++ ys)) (fun b ob q => Heap.get?_push_of_some _ q) (Nat.le_refl _) ?_, rfl, q2 (fun w => z (r2.nil_iff.mpr w)) _ (I.hok.fresh (Nat.le_refl _))⟩
  exact ⟨by rw [List.length_append]; exact hz, _, r1.append r2, IsTup.new _ _⟩
end
end L2

namespace L2
open PySem PySem.Spec PyProof.Rows

/-! ### places -/
/-- the place that an index of any sign means -/
noncomputable def ixN (n : Nat) (i : Int) : Option Nat := if 0 ≤ i then (if i < n then some i.toNat else none) else if -(n : Int) ≤ i then some (i + n).toNat else none
noncomputable def atI {α : Type} (xs : List α) (i : Int) : Option α := (ixN xs.length i).bind fun j => xs[j]?
theorem ixN_seq {n : Nat} {i : Int} {j : Nat} (h : ixN n i = some j) : seqIndex? i n = some j ∧ j < n ∧ -(n : Int) ≤ i ∧ i < n := by
  unfold ixN at h
  by_cases h0 : 0 ≤ i
  · rw [if_pos h0] at h
    by_cases h1 : i < n
    · rw [if_pos h1] at h
      have e : i.toNat = j := Option.some.inj h
      exact ⟨by rw [seqIndex_of h0 h1, e], by omega, by omega, h1⟩
    · rw [if_neg h1] at h; cases h
  · rw [if_neg h0] at h
    by_cases h1 : -(n : Int) ≤ i
    · rw [if_pos h1] at h
      have e : (i + n).toNat = j := Option.some.inj h
      exact ⟨by rw [seqIndex_neg (by omega) h1, e], by omega, h1, by omega⟩
    · rw [if_neg h1] at h; cases h
theorem atI_get {α : Type} {xs : List α} {i : Int} {v : α} (h : atI xs i = some v) : ∃ j, seqIndex? i xs.length = some j ∧ xs[j]? = some v ∧ j < xs.length ∧ -(xs.length : Int) ≤ i ∧ i < xs.length := by
  unfold atI at h
  cases e : ixN xs.length i with
  | none => rw [e] at h; cases h
  | some j =>
    rw [e] at h
    obtain ⟨h1, h2, h3, h4⟩ := ixN_seq e
    exact ⟨j, h1, h, h2, h3, h4⟩
theorem atI_nat {α : Type} {xs : List α} {j : Nat} {v : α} (h : xs[j]? = some v) : atI xs (j : Int) = some v := by
  have hj : j < xs.length := (List.getElem?_eq_some_iff.mp h).1
  have e : ixN xs.length (j : Int) = some j := by
    unfold ixN
    rw [if_pos (by omega), if_pos (by omega)]; simp
  unfold atI; rw [e]; exact h
/-! ### what may be subscripted -/
/-- what stands as an index of a plain subscript -/
noncomputable def PlainIx (b : Expr) : Prop := ∀ o i, subscripted b false o i = operate [o, i] (getItem o i)
/-- a subscript by values -/
noncomputable def IxR (X : Cx) (r : R2) : Prop :=
  ∀ (value slice : Expr) (pins : List (Addr × Obj)) (s : Shared) (σ : St) (H : Hp) (x y : V) (v u : Value) (Q : VK), Inv X pins σ H s → RelV x v → RelV y u → r x y H Q →
    subscripted slice false v u = operate [v, u] (getItem v u) → wpAny (model X.prog X.w) X.A (subscriptTail value slice v u) (EP X pins σ Q) X.xe s
/-- a call of a builtin's method by values: the receiver, the arguments -/
noncomputable def MtR (X : Cx) (id : String) (r : V → List V → Hp → VK → Prop) : Prop :=
  ∀ (pins : List (Addr × Obj)) (s : Shared) (σ : St) (H : Hp) (x : V) (xs : List V) (v : Value) (us : List Value) (Q : VK), Inv X pins σ H s → RelV x v → Vals xs us → r x xs H Q →
    wpAny (model X.prog X.w) X.A (call (.builtin id) (v :: us)) (EP X pins σ Q) X.xe s
section
variable {X : Cx} {a b : Expr} {ta tb : TE} {pos : Pos}
/-- a[b] -/
theorem pe_ix {r : R2} (hr : IxR X r) (ha : PE X a ta) (hb : PE X b tb) (hs : PlainIx b) : PE X (.Subscript a b pos) (tOp r ta tb) := by
  intro pins s σ H Q I h
  exact Subscript_ (binT ha hb I h fun v u s2 x y H2 I2 rx ry q => hr a b pins s2 σ H2 x y v u Q I2 rx ry q (hs _ _))

noncomputable def rIxL (K : PySem.W.Frag) : R2 := fun x y H Q => ∃ p xs i v, x = .ref p ∧ y = .int i ∧ SqL K H p xs ∧ atI xs i = some v ∧ Q v H
noncomputable def rIxT (K : PySem.W.Frag) : R2 := fun x y H Q => ∃ p xs i v, x = .ref p ∧ y = .int i ∧ SqT K H p xs ∧ atI xs i = some v ∧ Q v H
noncomputable def rIxS : R2 := fun x y H Q => ∃ z i c, x = .str z ∧ y = .int i ∧ z.length ≤ sizeLine ∧ atI z.cps.toList i = some c ∧ Q (.str ⟨#[c]⟩) H
theorem ix_list : IxR X (rIxL X.K) := by
  intro value slice pins s σ H x y v u Q I rx ry h hs
  obtain ⟨p, xs, i, z, rfl, rfl, hq, he, q⟩ := h
  cases rx
  obtain ⟨t, rfl⟩ := ry
  obtain ⟨its, r, pl, hz⟩ := I.list hq
  obtain ⟨j, h1, h2, h3, h4, h5⟩ := atI_get he
  obtain ⟨w, ew, rw'⟩ := r.get h2
  have hl := r.length
  have hn := line63
  have fin : EP X pins σ Q w s := ⟨z, H, I, rw', q⟩
  by_cases h0 : 0 ≤ i
  · have hj : i.toNat = j := by
      rw [seqIndex_of h0 h5] at h1
      exact Option.some.inj h1
    exact item_listR pl.isList h0 (by omega) (by rw [hj]; simpa using ew) fin hs
  · have hj : (i + (its.toArray.size : Int)).toNat = j := by
      rw [seqIndex_neg (by omega) h4] at h1
      rw [List.size_toArray, ← hl]
      exact Option.some.inj h1
    exact subscriptTail_builtinR (x := w) pl.isList.typeIs slot_list_getitem.lookup
      (wpAny_getItem_list_neg (Q := fun r s' => r = w ∧ EP X pins σ Q r s') pl.isList (by omega) (by rw [List.size_toArray] <;> omega) (by omega) (by rw [hj]; simpa using ew) ⟨rfl, fin⟩) hs
theorem ix_tup : IxR X (rIxT X.K) := by
  intro value slice pins s σ H x y v u Q I rx ry h hs
  obtain ⟨p, xs, i, z, rfl, rfl, hq, he, q⟩ := h
  cases rx
  obtain ⟨t, rfl⟩ := ry
  obtain ⟨its, r, pl, hz⟩ := I.tuple hq
  obtain ⟨j, h1, h2, h3, h4, h5⟩ := atI_get he
  obtain ⟨w, ew, rw'⟩ := r.get h2
  have hl := r.length
  have hn := line63
  have fin : EP X pins σ Q w s := ⟨z, H, I, rw', q⟩
  exact subscriptTail_builtinR (x := w) pl.typeIs slot_tuple_getitem.lookup
    (getItem_tuple (j := j) (Q := fun r s' => r = w ∧ EP X pins σ Q r s') pl (by omega) (by omega) (by rw [List.size_toArray, ← hl]; exact h1) (by simpa using ew) ⟨rfl, fin⟩) hs
theorem ix_str : IxR X rIxS := by
  intro value slice pins s σ H x y v u Q I rx ry h hs
  obtain ⟨z, i, c, rfl, rfl, hz, he, q⟩ := h
  obtain ⟨t, rfl⟩ := rx
  obtain ⟨t', rfl⟩ := ry
  obtain ⟨j, h1, h2, h3, h4, h5⟩ := atI_get he
  have hl : z.cps.toList.length = z.length := by simp [Str.length]
  rw [hl] at h1 h4 h5
  have hn := line63
  exact tail_any (typeIs_str s z t) slot_str_getitem.lookup (getItem_str (c := c) (by
    have e1 : decide (i < -(2 ^ 63 : Int)) = false := decide_eq_false (by omega)
    have e2 : decide (i ≥ 2 ^ 63) = false := decide_eq_false (by omega)
    rw [e1, e2, Bool.or_false]) (by rw [h1]; simpa using h2) ⟨.str ⟨#[c]⟩, H, I.tok _, ⟨_, rfl⟩, q⟩) hs
/-! ### xs[i] = v, any sign -/
/-- the list's object behind a store -/
theorem mapSeq_set (its : List Value) (n j : Nat) (u : Value) : Obj.mapSeq (·.setIfInBounds j u) { cls := .type "list", data := .seq its.toArray n } = { cls := .type "list", data := .seq (its.set j u).toArray n } := by
  simp [Obj.mapSeq]
theorem Inv.lst {pins : List (Addr × Obj)} {σ : St} {H : Hp} {s : Shared} {p : Addr} {xs : List V} (I : Inv X pins σ H s) (h : H p = some (.lst xs)) :
    ∃ (its : List Value) (n : Nat), Vals xs its ∧ s.heap.get? p = some { cls := .type "list", data := .seq its.toArray n } ∧ xs.length ≤ sizeLine := by
  obtain ⟨z, its, n, r, e⟩ := I.hok p _ h
  exact ⟨its, n, r, e, z⟩
/-- the list at p is written by an update of its object -/
theorem Inv.lstUpd {pins : List (Addr × Obj)} {σ : St} {H : Hp} {s : Shared} {p : Addr} {xs ys : List V} {its its' : List Value} {n n' : Nat} {f : Obj → Obj} (I : Inv X pins σ H s) (h : H p = some (.lst xs))
    (ho : s.heap.get? p = some { cls := .type "list", data := .seq its.toArray n }) (hf : f { cls := .type "list", data := .seq its.toArray n } = { cls := .type "list", data := .seq its'.toArray n' }) (r : Vals ys its') (hz : ys.length ≤ sizeLine) (t : Nat) :
    Inv X pins σ (upd H p (.lst ys)) { s with heap := s.heap.update p f, toks := t } := by
  have e : (s.heap.update p f).get? p = some { cls := .type "list", data := .seq its'.toArray n' } := by
    rw [Heap.get?_update_self f ho (by rw [hf] <;> rfl), hf]
  refine I.write (x := p) (e := p) (by rw [h]; trivial) (.inl rfl) (fun b u hb q => (Heap.get?_update_other _ _ (Ne.symm hb)).trans q) ⟨_, e⟩ ?_
  exact ⟨hz, its', n', r, e⟩
noncomputable def rSetL : V → V → V → Hp → (Hp → Prop) → Prop := fun o i v H Q => ∃ p xs k j, o = .ref p ∧ i = .int k ∧ H p = some (.lst xs) ∧ ixN xs.length k = some j ∧ Q (upd H p (.lst (xs.set j v)))
theorem set_list : PSet X rSetL := by
  intro pins s σ H o i v ov iv u Q I ro ri rv h
  obtain ⟨p, xs, k, j, rfl, rfl, hp, hj, q⟩ := h
  cases ro
  obtain ⟨t, rfl⟩ := ri
  obtain ⟨its, n, r, ho, hz⟩ := I.lst hp
  obtain ⟨h1, h2, h3, h4⟩ := ixN_seq hj
  have hl := r.length
  have hn := line63
  have I' : Inv X pins σ (upd H p (.lst (xs.set j v))) { s with heap := s.heap.update p (Obj.mapSeq (·.setIfInBounds j u)) } :=
    I.lstUpd hp ho (mapSeq_set its n j u) (r.set rv j) (by rw [List.length_set]; exact hz) s.toks
  by_cases h0 : 0 ≤ k
  · have hk : k.toNat = j := by
      rw [seqIndex_of h0 h4] at h1
      exact Option.some.inj h1
    exact PySem.W.ki_setAt ho h0 (by omega) (by rw [List.size_toArray, ← hl]; exact h4) (by rw [hk]; exact ⟨_, I', q⟩)
  · have hk : (k + (its.toArray.size : Int)).toNat = j := by
      rw [seqIndex_neg (by omega) h3] at h1
      rw [List.size_toArray, ← hl]
      exact Option.some.inj h1
    exact PySem.W.ki_setBack ho (by omega) (by rw [List.size_toArray, ← hl]; exact h3) (by omega) (by rw [hk]; exact ⟨_, I', q⟩)

/-! ### slices -/
theorem slice_bounds (lo hi : Option Int) (n : Nat) : (sliceBounds lo hi none n).1 = ((HT.sIx n 0 lo : Nat) : Int) ∧ (sliceBounds lo hi none n).2.1 = ((HT.sIx n n hi : Nat) : Int) ∧ (sliceBounds lo hi none n).2.2 = 1 := by
  refine ⟨?_, ?_, rfl⟩
  · cases lo with
    | none => simp [sliceBounds, HT.sIx]
    | some i =>
      simp only [sliceBounds, HT.sIx, Option.getD_none, show (1 : Int) > 0 by decide, if_true]
      by_cases h : i < 0
      · simp only [h, if_true] <;> omega
      · simp only [h, if_false] <;> omega
  · cases hi with
    | none => simp [sliceBounds, HT.sIx]
    | some i =>
      simp only [sliceBounds, HT.sIx, Option.getD_none, show (1 : Int) > 0 by decide, if_true]
      by_cases h : i < 0
      · simp only [h, if_true] <;> omega
      · simp only [h, if_false] <;> omega
theorem slicePick_cut (its : List Value) (lo hi : Option Int) : slicePick its.toArray lo hi none = ((its.drop (HT.sIx its.length 0 lo)).take (HT.sIx its.length its.length hi - HT.sIx its.length 0 lo)).toArray := by
  obtain ⟨h1, h2, h3⟩ := slice_bounds lo hi its.toArray.size
  unfold slicePick
  rw [h1, h2, h3]
  simp only [sliceRange_one, pick_run, List.size_toArray] <;> rfl
/-- xs[lo:hi] of a list: a new list -/
noncomputable def rSlL (K : PySem.W.Frag) : V → Option Int → Option Int → Hp → VK → Prop := fun x lo hi H Q => ∃ a xs, x = .ref a ∧ SqL K H a xs ∧ ∀ p, H p = none → Q (.ref p) (upd H p (.lst (cutV xs lo hi)))
theorem sl_list : SlR X (rSlL X.K) := by
  intro pins s σ H x v vl vu lo hi sl Q I rx hs pl pu h
  obtain ⟨a, xs, rfl, hx, q⟩ := h
  cases rx
  obtain ⟨its, r, ht, hz⟩ := I.list hx
  have hlen := r.length
  refine ⟨"list", _, slot_list_getitem.lookup, ht.isList.typeIs, ?_⟩
  refine wpAny_getItem_list_slice ht.isList hs pl pu .none (by simp) ?_ (by rw [List.size_toArray] <;> omega)
  rw [slicePick_cut, ← hlen]
  refine ⟨.ref s.heap.objs.size, _, I.laid (t' := s.toks) (o := .lst (cutV xs lo hi)) (fun b ob q => Heap.get?_push_of_some _ q) (Nat.le_refl _) ?_, rfl, q _ (I.hok.fresh (Nat.le_refl _))⟩
  exact ⟨Nat.le_trans (cutV_length xs lo hi) hz, _, 0, (r.drop (HT.sIx xs.length 0 lo)).take (HT.sIx xs.length xs.length hi - HT.sIx xs.length 0 lo), Heap.get?_push_size _ rfl⟩

/-! ### in, not in: flat items -/
noncomputable def flatV : V → Bool
  | .non => true
  | .bl _ => true
  | .int _ => true
  | .str _ => true
  | _ => false
/-- == of flat values -/
noncomputable def eqV : V → V → Bool
  | .non, .non => true
  | .bl a, .bl b => a == b
  | .bl a, .int b => (if a then 1 else 0) == b
  | .int a, .bl b => a == (if b then 1 else 0)
  | .int a, .int b => a == b
  | .str a, .str b => a == b
  | _, _ => false
theorem eqAt_V {A : Around} {s : Shared} {y x : V} {u v : Value} (ry : RelV y u) (rx : RelV x v) (fy : flatV y = true) (fx : flatV x = true) : SeqAt.EqAt A s u v (eqV y x) := by
  cases y with
  | non =>
    cases ry
    cases x with
    | non => cases rx; exact SeqAt.EqAt.same _
    | bl b => cases rx; exact SeqAt.EqAt.none_bool b
    | int b => obtain ⟨t, rfl⟩ := rx; exact SeqAt.EqAt.none_int b t
    | str b => obtain ⟨t, rfl⟩ := rx; exact SeqAt.EqAt.none_str b t
    | _ => exact absurd (show false = true from fx) Bool.false_ne_true
  | bl a =>
    cases ry
    cases x with
    | non => cases rx; exact SeqAt.EqAt.bool_none a
    | bl b => cases rx; exact SeqAt.EqAt.bool_bool a b
    | int b => obtain ⟨t, rfl⟩ := rx; exact SeqAt.EqAt.bool_int a b t
    | str b => obtain ⟨t, rfl⟩ := rx; exact SeqAt.EqAt.bool_str a b t
    | _ => exact absurd (show false = true from fx) Bool.false_ne_true
  | int a =>
    obtain ⟨t', rfl⟩ := ry
    cases x with
    | non => cases rx; exact SeqAt.EqAt.int_none a t'
    | bl b => cases rx; exact SeqAt.EqAt.int_bool a t' b
    | int b => obtain ⟨t, rfl⟩ := rx; exact SeqAt.EqAt.int_int a t' b t
    | str b => obtain ⟨t, rfl⟩ := rx; exact SeqAt.EqAt.int_str a t' b t
    | _ => exact absurd (show false = true from fx) Bool.false_ne_true
  | str a =>
    obtain ⟨t', rfl⟩ := ry
    cases x with
    | non => cases rx; exact SeqAt.EqAt.str_none a t'
    | bl b => cases rx; exact SeqAt.EqAt.str_bool a t' b
    | int b => obtain ⟨t, rfl⟩ := rx; exact SeqAt.EqAt.str_int a t' b t
    | str b => obtain ⟨t, rfl⟩ := rx; exact SeqAt.EqAt.str_str a t' b t
    | _ => exact absurd (show false = true from fx) Bool.false_ne_true
  | _ => exact absurd (show false = true from fy) Bool.false_ne_true
/-- the items' answers, read off the values (a value's own answer does not lean on its token) -/
noncomputable def eqU (x : V) (u : Value) : Bool := match u with
  | .none => eqV .non x
  | .bool b => eqV (.bl b) x
  | .int i _ => eqV (.int i) x
  | .str z _ => eqV (.str z) x
  | _ => false
theorem eqU_of {x y : V} {u : Value} (r : RelV y u) (f : flatV y = true) : eqU x u = eqV y x := by
  cases y with
  | non => cases r; rfl
  | bl b => cases r; rfl
  | int i => obtain ⟨t, rfl⟩ := r; rfl
  | str z => obtain ⟨t, rfl⟩ := r; rfl
  | _ => exact absurd (show false = true from f) Bool.false_ne_true
theorem any_eqU {x : V} : ∀ {xs : List V} {us : List Value}, Vals xs us → xs.all flatV = true → us.any (eqU x) = xs.any fun y => eqV y x
  | _, _, .nil, _ => rfl
  | y :: xs, u :: us, .cons r t, f => by
    rw [List.all_cons, Bool.and_eq_true] at f
    rw [List.any_cons, List.any_cons, eqU_of r f.1, any_eqU t f.2]
theorem mem_eqAt {A : Around} {s : Shared} {x : V} {v : Value} (rx : RelV x v) (fx : flatV x = true) : ∀ {xs : List V} {us : List Value}, Vals xs us → xs.all flatV = true → ∀ u ∈ us, SeqAt.EqAt A s u v (eqU x u)
  | _, _, .nil, _ => fun u hu => by cases hu
  | y :: xs, u :: us, .cons r t, f => fun u' hu => by
    rw [List.all_cons, Bool.and_eq_true] at f
    rcases List.mem_cons.mp hu with rfl | hu
    · rw [eqU_of r f.1]; exact eqAt_V r rx f.1 fx
    · exact mem_eqAt rx fx t f.2 u' hu
noncomputable def inV (x : V) (xs : List V) : Bool := xs.any fun y => eqV y x
/-- x in a list or tuple of flat items -/
noncomputable def rIn (K : PySem.W.Frag) (neg : Bool) : R2 := fun x y H Q => ∃ p xs, y = .ref p ∧ (SqL K H p xs ∨ SqT K H p xs) ∧ flatV x = true ∧ xs.all flatV = true ∧ Q (.bl (if neg then !inV x xs else inV x xs)) H
theorem op_in_seq : OpR X (compareOp .In) (rIn X.K false) := by
  intro pins s σ H x y v u Q I rx ry h
  obtain ⟨p, xs, rfl, hq, fx, fs, q⟩ := h
  cases ry
  rcases hq with hq | hq
  · obtain ⟨its, r, pl, hz⟩ := I.list hq
    refine SeqAt.in_listAt (eqU x) pl.isList (fun w hw => mem_eqAt rx fx r fs w (by simpa using hw)) ⟨.bl _, H, I, rfl, ?_⟩
    rw [show its.toArray.any (eqU x) = its.any (eqU x) by simp, any_eqU r fs]
    exact q
  · obtain ⟨its, r, pl, hz⟩ := I.tuple hq
    refine SeqAt.in_tupleAt (eqU x) pl (fun w hw => mem_eqAt rx fx r fs w (by simpa using hw)) ⟨.bl _, H, I, rfl, ?_⟩
    rw [show its.toArray.any (eqU x) = its.any (eqU x) by simp, any_eqU r fs]
    exact q
theorem op_notIn_seq : OpR X (compareOp .NotIn) (rIn X.K true) := by
  intro pins s σ H x y v u Q I rx ry h
  obtain ⟨p, xs, rfl, hq, fx, fs, q⟩ := h
  cases ry
  rcases hq with hq | hq
  · obtain ⟨its, r, pl, hz⟩ := I.list hq
    refine SeqAt.notIn_listAt (eqU x) pl.isList (fun w hw => mem_eqAt rx fx r fs w (by simpa using hw)) ⟨.bl _, H, I, rfl, ?_⟩
    rw [show its.toArray.any (eqU x) = its.any (eqU x) by simp, any_eqU r fs]
    exact q
  · obtain ⟨its, r, pl, hz⟩ := I.tuple hq
    refine SeqAt.notIn_tupleAt (eqU x) pl (fun w hw => mem_eqAt rx fx r fs w (by simpa using hw)) ⟨.bl _, H, I, rfl, ?_⟩
    rw [show its.toArray.any (eqU x) = its.any (eqU x) by simp, any_eqU r fs]
    exact q
/-! ### len, list(x), tuple(x) of any list or tuple that is read -/
theorem call_len_seq : CallR X (.builtin "len") (fun xs H Q => ∃ p ys, xs = [.ref p] ∧ (SqL X.K H p ys ∨ SqT X.K H p ys) ∧ Q (.int ys.length) H) := by
  intro pins s σ H xs us Q I r h
  obtain ⟨p, ys, rfl, hq, q⟩ := h
  obtain ⟨u, rfl, rx⟩ := vals1 r
  cases rx
  have hn := line63
  rcases hq with hq | hq
  · obtain ⟨its, r', pl, hz⟩ := I.list hq
    have hlen := r'.length
    exact Calls.call_len_list pl.isList (by simp only [List.size_toArray] <;> omega) ⟨.int ys.length, H, I.tok _, ⟨s.toks + 1, by rw [List.size_toArray, hlen]⟩, q⟩
  · obtain ⟨its, r', pl, hz⟩ := I.tuple hq
    have hlen := r'.length
    exact len_tuple pl (by simp only [List.size_toArray] <;> omega) ⟨.int ys.length, H, I.tok _, ⟨s.toks + 1, by rw [List.size_toArray, hlen]⟩, q⟩
theorem call_list_of : CallR X (.type "list") (fun xs H Q => ∃ p ys, xs = [.ref p] ∧ (SqL X.K H p ys ∨ SqT X.K H p ys) ∧ ∀ l, H l = none → Q (.ref l) (upd H l (.lst ys))) := by
  intro pins s σ H xs us Q I r h
  obtain ⟨p, ys, rfl, hq, q⟩ := h
  obtain ⟨u, rfl, rx⟩ := vals1 r
  cases rx
  have fin : ∀ (its : List Value), Vals ys its → ys.length ≤ sizeLine → ∀ (h' : Heap) (c' : Nat), (∀ b o', s.heap.get? b = some o' → h'.get? b = some o') →
      h'.get? s.heap.objs.size = some { cls := .type "list", dict := none, data := .seq its.toArray c', slots := #[] } → EP X pins σ Q (.ref s.heap.objs.size) { s with heap := h' } := fun its r' hz h' c' kp e =>
    ⟨.ref s.heap.objs.size, _, I.laid (t' := s.toks) kp (Nat.le_refl _) (show ObjOk X.prog X.w _ h' _ (.lst ys) from ⟨hz, its, c', r', e⟩), rfl, q _ (I.hok.fresh (Nat.le_refl _))⟩
  rcases hq with hq | hq
  · obtain ⟨its, r', pl, hz⟩ := I.list hq
    have hlen := r'.length
    obtain ⟨o, ho, hc, n, hd⟩ := pl.isList
    exact call_list_seq p (.inl rfl) ho hc hd (fun h' c' kp e => fin its r' hz h' c' kp e) (by simp only [List.size_toArray] <;> omega)
  · obtain ⟨its, r', pl, hz⟩ := I.tuple hq
    have hlen := r'.length
    obtain ⟨o, ho, hc, n, hd⟩ := pl
    exact call_list_seq p (.inr rfl) ho hc hd (fun h' c' kp e => fin its r' hz h' c' kp e) (by simp only [List.size_toArray] <;> omega)
theorem call_tuple_of : CallR X (.type "tuple") (fun xs H Q => ∃ p ys, xs = [.ref p] ∧ ((SqL X.K H p ys ∧ ∀ l, H l = none → Q (.ref l) (upd H l (.tup ys))) ∨ (SqT X.K H p ys ∧ Q (.ref p) H))) := by
  intro pins s σ H xs us Q I r h
  obtain ⟨p, ys, rfl, h⟩ := h
  obtain ⟨u, rfl, rx⟩ := vals1 r
  cases rx
  rcases h with ⟨hq, q⟩ | ⟨hq, q⟩
  · obtain ⟨its, r', pl, hz⟩ := I.list hq
    have hlen := r'.length
    refine call_tuple_list pl.isList (fun h' kp => ?_) (by simp only [List.size_toArray] <;> omega)
    have I1 : Inv X pins σ H { s with heap := h' } := I.kept (t' := s.toks) kp
    have I2 : Inv X pins σ (upd H h'.objs.size (.tup ys)) { s with heap := h'.push { cls := .type "tuple", data := .seq its.toArray } } :=
      I1.laid (t' := s.toks) (fun b o e => Heap.get?_push_of_some _ e) (Nat.le_refl _) (show ObjOk X.prog X.w _ _ _ (.tup ys) from ⟨hz, its, r', IsTup.new _ _⟩)
    exact ⟨.ref h'.objs.size, _, I2, rfl, q _ (I1.hok.fresh (Nat.le_refl _))⟩
  · obtain ⟨its, r', pl, hz⟩ := I.tuple hq
    exact call_tuple_same pl ⟨.ref p, H, I, rfl, q⟩

/-! ### the call of a builtin's method: o.m(..) -/
/-- the value is of that builtin type -/
noncomputable def tyV (K : PySem.W.Frag) (T : String) (x : V) (H : Hp) : Prop := match x with
  | .str _ => T = "str"
  | .int _ => T = "int"
  | .ref p => (T = "list" ∧ ∃ xs, SqL K H p xs) ∨ (T = "tuple" ∧ ∃ o, K.lookup p = some o ∧ o.cls = .type "tuple" ∧ o.dict = none) ∨
      (T = "dict" ∧ ((∃ kvs, H p = some (.dK kvs)) ∨ ∃ kvs, H p = some (.dT kvs))) ∨ (T = "set" ∧ ∃ S n, H p = some (.set S n))
  | _ => False
theorem tyV_is {pins : List (Addr × Obj)} {σ : St} {H : Hp} {s : Shared} {T : String} {x : V} {v : Value} (I : Inv X pins σ H s) (r : RelV x v) (ty : tyV X.K T x H) :
    s.TypeIs v T ∧ ∀ a, v = .ref a → ∃ ob, s.heap.get? a = some ob ∧ ob.dict = none := by
  cases x with
  | str z =>
    obtain ⟨t, rfl⟩ := r
    cases (show T = "str" from ty)
    exact ⟨typeIs_str s z t, fun _ e => nomatch e⟩
  | int i =>
    obtain ⟨t, rfl⟩ := r
    cases (show T = "int" from ty)
    exact ⟨typeIs_int s i t, fun _ e => nomatch e⟩
  | ref p =>
    cases r
    rcases ty with ⟨rfl, xs, hq⟩ | ⟨rfl, o, hk, hc, hd⟩ | ⟨rfl, hk⟩ | ⟨rfl, S, n, hk⟩
    · obtain ⟨its, _, pl, _⟩ := I.list hq
      refine ⟨pl.isList.typeIs, fun a e => ?_⟩
      cases e
      obtain ⟨o, n, e, c, hd, _⟩ := pl
      exact ⟨o, e, hd⟩
    · refine ⟨⟨o, I.kIn p o hk, hc⟩, fun a e => ?_⟩
      cases e
      exact ⟨o, I.kIn _ o hk, hd⟩
    · have z : ∃ o, s.heap.get? p = some o ∧ o.ExactDict := by
        rcases hk with ⟨kvs, hk⟩ | ⟨kvs, hk⟩
        · obtain ⟨_, _, _, _, o, _, _, e, ex, _⟩ := I.hok p _ hk
          exact ⟨o, e, ex⟩
        · obtain ⟨_, _, _, _, o, _, _, e, ex, _⟩ := I.hok p _ hk
          exact ⟨o, e, ex⟩
      obtain ⟨o, e, ex⟩ := z
      refine ⟨⟨o, e, ex.1⟩, fun a e2 => ?_⟩
      cases e2
      exact ⟨o, e, ex.2.1⟩
    · obtain ⟨o, _, _, _, e, ex, _⟩ := I.hok p _ hk
      refine ⟨⟨o, e, ex.1⟩, fun a e2 => ?_⟩
      cases e2
      exact ⟨o, e, ex.2.1⟩
  | _ => exact False.elim ty
noncomputable def tBM0 (K : PySem.W.Frag) (T : String) (r : V → List V → Hp → VK → Prop) (to : TE) : TE := fun σ H Q => to σ H fun x H1 => tyV K T x H1 ∧ r x [] H1 Q
noncomputable def tBM (K : PySem.W.Frag) (T : String) (r : V → List V → Hp → VK → Prop) (to : TE) (t : TA) : TE := fun σ H Q => to σ H fun x H1 => tyV K T x H1 ∧ t σ H1 fun xs H2 => r x xs H2 Q
variable {o e : Expr} {es : List Expr} {to : TE} {t : TA} {name : Str} {apos cpos : Pos} {T id : String} {r : V → List V → Hp → VK → Prop}
theorem pe_bm0 (pa : PlainAttrs T) (slot : Slot T name id) (hty : typeOf (.builtin id) = pure (.type "method_descriptor")) (hm : MtR X id r) (ho : PE X o to)
    (hbase : attributeBase o name X.env (eval o X.env) = eval o X.env := by rfl) (hline : (apos.endLine == cpos.line) = true := by rfl) : PE X (.Call (.Attribute o name apos) [] [] cpos) (tBM0 X.K T r to) := by
  intro pins s σ H Q I h
  refine wpAny_Call_method0_late hbase hline (thn (ho pins s σ H _ I h) fun v s1 ⟨x, H1, I1, r1, ty, q1⟩ => ?_)
  obtain ⟨h1, h2⟩ := tyV_is I1 r1 ty
  exact ⟨T, id, pa, slot, hty, h1, h2, Calls.callWith_builtin rfl (PySem.evalArgs_none (hm pins s1 σ H1 x [] v [] Q I1 r1 .nil q1))⟩
theorem pe_bm (pa : PlainAttrs T) (slot : Slot T name id) (hty : typeOf (.builtin id) = pure (.type "method_descriptor")) (hm : MtR X id r) (ho : PE X o to) (ha : PA X (e :: es) t)
    (hbase : attributeBase o name X.env (eval o X.env) = eval o X.env := by rfl)
    (hfew : ((backTo cpos (starEach (e :: es) X.env)).all (fun x => !x.1) && (backToKw cpos (keywordEach [] X.env)).all (fun x => x.1.isSome)
      && decide ((e :: es).length + ([] : List Keyword).length + (if ([] : List Keyword).isEmpty then 0 else 1) < 30)) = true := by rfl)
    (hline : (apos.endLine == cpos.line) = true := by rfl) (hs : starEach (e :: es) X.env = (false, eval e X.env) :: starEach es X.env := by rfl) (hplain : (backTo cpos (starEach es X.env)).any (·.1) = false := by rfl) :
    PE X (.Call (.Attribute o name apos) (e :: es) [] cpos) (tBM X.K T r to t) := by
  intro pins s σ H Q I h
  refine wpAny_Call_method_late hbase hfew hline rfl (thn (ho pins s σ H _ I h) fun v s1 ⟨x, H1, I1, r1, ty, q1⟩ => ?_)
  obtain ⟨h1, h2⟩ := tyV_is I1 r1 ty
  refine ⟨T, id, pa, slot, hty, h1, h2, ?_⟩
  have hA := ha cpos pins s1 σ H1 _ I1 q1
  rw [hs] at hA ⊢
  refine Calls.callWith_builtin (by show (false || (backTo cpos (starEach es X.env)).any (·.1)) = false; rw [hplain] <;> rfl) (Calls.evalArgs_plain ?_)
  exact thn hA fun us s2 ⟨vs, H2, I2, r2, q2⟩ => hm pins s2 σ H2 x vs v us Q I2 r1 r2 q2
/- xs.append(e), list.index on a module's tuple .. are MtR facts of 06m -/
end
end L2

namespace L2
open PySem PySem.Spec PyProof.Rows

noncomputable def MtM (X : Cx) (id : String) (r : V → List V → Hp → VK → Prop) : Prop :=
  ∀ (pins : List (Addr × Obj)) (s : Shared) (σ : St) (H : Hp) (x : V) (xs : List V) (v : Value) (us : List Value) (Q : VK), Inv X pins σ H s → RelV x v → Vals xs us → r x xs H Q →
    wpAny (model X.prog X.w) X.A (call (.builtin id) (v :: us)) (EP X pins σ Q) X.xe s

/-! ### lists of values -/
theorem Vals.one : ∀ {x : V} {us : List Value}, Vals [x] us → ∃ u, us = [u] ∧ RelV x u
  | _, _, .cons r .nil => ⟨_, rfl, r⟩
section
variable {X : Cx} {pins : List (Addr × Obj)} {σ : St} {H : Hp} {s : Shared} {l b : Addr} {xs ys zs : List V}

/-! ### the two steps: a tracked list is rewritten, a new list is laid -/
theorem Inv.lset {its its' : List Value} {n : Nat} {f : Array Value → Array Value} {t' : Nat} (I : Inv X pins σ H s) (hH : H l = some (.lst xs))
    (e : s.heap.get? l = some { cls := .type "list", data := .seq its.toArray n }) (hf : f its.toArray = its'.toArray) (hv : Vals ys its') (hz : ys.length ≤ sizeLine) :
    Inv X pins σ (upd H l (.lst ys)) { s with heap := s.heap.update l (Obj.mapSeq f), toks := t' } := by
  have q := PySem.IsL.update e f
  rw [hf] at q
  refine I.write (x := l) (e := l) (by rw [hH]; exact trivial) (.inl rfl) (fun b' u hb hu => (Heap.get?_update_other s.heap (Obj.mapSeq f) (Ne.symm hb)).trans hu) ⟨_, q⟩ ?_
  exact ⟨hz, its', _, hv, q⟩
theorem Inv.lnew {its : List Value} {t' : Nat} (I : Inv X pins σ H s) (hv : Vals ys its) (hz : ys.length ≤ sizeLine) :
    Inv X pins σ (upd H s.heap.objs.size (.lst ys)) { s with heap := s.heap.push { cls := .type "list", data := .seq its.toArray }, toks := t' } :=
  I.laid (fun _ _ q => Heap.get?_push_of_some _ q) (Nat.le_refl _) ⟨hz, its, 0, hv, Heap.get?_push_size _ rfl⟩
theorem Inv.fresh (I : Inv X pins σ H s) : H s.heap.objs.size = none := I.hok.fresh (Nat.le_refl _)
theorem Inv.lstM (I : Inv X pins σ H s) (hH : H l = some (.lst xs)) : xs.length ≤ sizeLine ∧ ∃ (its : List Value) (n : Nat), Vals xs its ∧ xs.length = its.length ∧ s.heap.get? l = some { cls := .type "list", data := .seq its.toArray n } := by
  obtain ⟨z, its, n, r, e⟩ := I.hok l _ hH
  exact ⟨z, its, n, r, r.length, e⟩

end

section
variable {X : Cx}

/-! ### methods -/
noncomputable def rAppend : V → List V → Hp → VK → Prop := fun x vs H Q => ∃ l xs y, x = .ref l ∧ vs = [y] ∧ H l = some (.lst xs) ∧ xs.length < sizeLine ∧ Q .non (upd H l (.lst (xs ++ [y])))
theorem mt_append : MtM X "list.append" rAppend := by
  intro pins s σ H x vs v us Q I rx rv h
  obtain ⟨l, xs, y, rfl, rfl, hH, hz, q⟩ := h
  cases rx
  obtain ⟨u, rfl, ru⟩ := rv.one
  obtain ⟨z, its, n, r, hl, e⟩ := I.lstM hH
  refine call_meets F.slot_list_append ⟨_, e, rfl⟩ F.entry_list_append (F.args_list_append_2 _ _) (PySem.list_append l its.toArray n u (by rw [List.size_toArray]; omega)) ⟨e, ?_⟩
  refine ⟨.non, _, I.lset (its' := its ++ [u]) hH e (by simp) (r.append (.cons ru .nil)) ?_, rfl, q⟩
  rw [List.length_append, List.length_singleton]
  omega

/-! ### list + list, list += list, list * int -/
noncomputable def rCat : R2 := fun x y H Q => ∃ l b xs zs, x = .ref l ∧ y = .ref b ∧ H l = some (.lst xs) ∧ H b = some (.lst zs) ∧ xs.length + zs.length ≤ sizeLine ∧ ∀ p, H p = none → Q (.ref p) (upd H p (.lst (xs ++ zs)))
theorem op_cat : OpR X (binaryOp .Add) rCat := by
  intro pins s σ H x y v u Q I rx ry h
  obtain ⟨l, b, xs, zs, rfl, rfl, hH, hB, hz, q⟩ := h
  cases rx
  cases ry
  obtain ⟨z, its, n, r, hl, e⟩ := I.lstM hH
  obtain ⟨z2, its2, n2, r2, hl2, e2⟩ := I.lstM hB
  refine PySem.P.add_list e e2 ?_ (by rw [List.size_toArray, List.size_toArray]; omega)
  have ea : its.toArray ++ its2.toArray = (its ++ its2).toArray := by simp
  rw [ea]
  exact ⟨.ref _, _, I.lnew (t' := s.toks) (r.append r2) (by rw [List.length_append]; omega), rfl, q _ I.fresh⟩
/-! ### del xs[i] -/
end

/-! ### xs[a:b] = ys -/
section
variable {prog : Program} {w : World} {A : Around} {E : Value → Shared → Prop} {s : Shared}
end

section
variable {X : Cx}
end
end L2

namespace Att
open PySem PySem.W PySem.Calls PyProof.Rows

/-! ### the script -/
theorem ints_of_wellAll {P : Params} {h : Heap} : ∀ (ns : List Int) (vs : List Value), WellAll P h vs (ns.map WData.int) → IntsAre vs ns := by
  intro ns
  induction ns with
  | nil =>
    intro vs w
    rw [List.map_nil] at w
    cases w
    exact .nil
  | cons n ns ih =>
    intro vs w
    rw [List.map_cons] at w
    cases w with
    | cons a b =>
      cases a
      exact .cons _ _ (ih _ b)

theorem script_of {l : OpenLaw} {n : Nat} (hn : l.most = some n) {P : Params} {h : Heap} {args : List WData} {vals : List Value}
    (hpre : l.row.toRowW.claim.pre args = true) (hwl : WellAll P h vals args) :
    ∃ a vs ns, vals = [Value.ref a] ∧ args = [WData.list (ns.map WData.int)] ∧ h.get? a = some { cls := .type "list", data := .seq vs.toArray } ∧ IntsAre vs ns ∧ ns.length ≤ n := by
  have hsh : WShape.hasAll [] args [.list .int] = true := (pre_splitW hpre).1
  have hc : l.pre.holds [] { args := args } = true := (pre_splitW hpre).2
  obtain ⟨d, r, rfl, h1, h2⟩ := hasAllW_cons hsh
  obtain rfl := hasAllW_nil h2
  obtain ⟨xs, rfl, h3⟩ := hasW_list h1
  obtain ⟨ns, rfl⟩ := items_int h3
  have hlen : ns.length ≤ n := by
    unfold OpenLaw.pre at hc
    have h4 : (WTm.not (.lt (.lit (.int (n : Int))) (.len (.arg 0)))).holds [] { args := [.list (ns.map .int)] } = true := by
      have h4 := (holds_andW hc).1
      rw [hn] at h4
      exact h4
    have h5 := condW_of h4 (w_not (w_lt w_lit (w_len_list (w_arg rfl))))
    rw [List.length_map] at h5
    refine Nat.le_of_not_lt fun q => ?_
    have q' : (n : Int) < ((ns.length : Nat) : Int) := by omega
    first
      | (rw [decide_eq_true q'] at h5; exact absurd h5 (by decide))
      | (simp at h5; omega)
  cases hwl with
  | cons w1 w2 =>
    cases w2
    cases w1 with
    | list ho hall => exact ⟨_, _, ns, rfl, rfl, ho, ints_of_wellAll ns _ hall, hlen⟩

theorem post_true (l : OpenLaw) (args : List WData) : l.row.toRowW.claim.post args (.bool true) args = true :=
  postW_of (r := l.row.toRowW) (X := (true == true))
    (show WShape.has [] (.bool true) .bool = true by first | rfl | decide | simp [WShape.has, WShape.arms, WShape.armsAll])
    (show (WTm.eq .res (.lit (.bool true))).value [] { args := args, res := some (.bool true), after := args } = some (.bool (true == true)) from w_eq_bool (w_res rfl) w_lit) rfl

/-! ### the attachment: holds_open's last premise (the goal 'hc' behind k_head) from a wpAny of the law's body -/
/-- the same from a codeAny of the CALL (for a layer whose function contracts speak of calls) -/
theorem attach_call {l : OpenLaw} {n : Nat} {q : Program} {loose : List Str} {XP : (Str → Option Value) → Heap → Prop} {YP : World → Heap → Prop} {d : DefRec}
    (hn : l.most = some n) (hdf : d.params.defaults = [])
    (call : ∀ (w : World) (s₀ s₁ : Shared) (mg mb : Str → Option Value) (fa : Addr) (o : Obj) (pm cd doc : Value) (a : Addr) (vs : List Value) (ns : List Int),
      Ground q loose [] XP w s₀ mg mb s₁.heap → YP w s₁.heap →
      s₁.heap.get? fa = some o → o.data = .func (docDef d.name d.params d.body d.scope pm cd doc) → s₁.heap.CodeRec cd d.name → mg d.name = some (.ref fa) →
      s₁.heap.get? a = some { cls := .type "list", data := .seq vs.toArray } → IntsAre vs ns → ns.length ≤ n → s₁.gens = #[] →
      codeAny (model l.prog w) callerA (.call (.ref fa) ⟨[.ref a], []⟩) (fun r s' => r = .ok (.ret (.bool true)) ∧ OldK s₁.heap s'.heap ∧ s'.os = s₁.os ∧ AllBare s'.gens) s₁) :
    WalkO q loose XP YP l.row.toRowW d [] (fun f vs => PySem.call f vs) := by
  intro w s₀ s₁ mg mb G Y fa o pm cd doc dV kV ho hd hcd hD hmg hg args vals as hpre hlay hrd hwl hlo
  obtain rfl : dV = .none := Dflts.none hD hdf
  obtain rfl : kV = .none := Dflts.noKw hD
  obtain ⟨a, vs, ns, rfl, rfl, hobj, hints, hlen⟩ := script_of hn hpre hwl
  refine enter_call (codeAny_mono (call w s₀ s₁ mg mb fa o pm cd doc a vs ns G Y ho (fd_plain hd) hcd hmg hobj hints hlen hg) fun r s' hq => ?_)
  obtain ⟨rfl, h2, h3, h4⟩ := hq
  exact ⟨.inl ⟨.bool true, .bool true, [], rfl, fun _ => rfl, .bool true, post_true l _, fun _ => ⟨List.Pairwise.nil, fun _ hm => (nomatch hm)⟩⟩, h2, h3, h4⟩

/-! ### rules over ANY heap (no ledger) from facts about the written part K: the library's own take a ledger (News) for what they write -/
section
variable {prog : Program} {w : World} {A : Around} {E : Value → Shared → Prop} {s : Shared} {K : Frag}

/-! the whole heap as the ledger: makes every rule that writes through a ledger a rule over any heap -/
end
end Att

namespace L2
open PySem PySem.Spec PyProof.Rows

theorem vals_ints : ∀ {vs : List Value} {ns : List Int}, IntsAre vs ns → Vals (ns.map V.int) vs
  | _, _, .nil => .nil
  | _, _, .cons n t h => .cons ⟨t, rfl⟩ (vals_ints h)

/-- nothing is tracked but the script, known to the object (or it is an object of the module) -/
noncomputable def Only (H : Hp) : Prop := ∀ b, H b = none ∨ ∃ o xs, H b = some (.frz o (.lst xs))

/-- THE HEAD: the law's promise, at the heap behind the top. F, the promise of the law's def, may use that base is part of the heap (so K.In base, base.Ns mainGlobals mg stand in Mod) -/
theorem law_call {P : Program} {w : World} {K : PySem.W.Frag} {mg mb : Str → Option Value} {CX : CXT} {k : Nat} {fa a : Addr} {fd : FuncData} {x : Str} {sp : Sp} {s₁ : Shared} {vs : List Value} {ns : List Int}
    (KX : K.In s₁.heap) (hns : s₁.heap.Ns mainGlobals mg) (hb : s₁.heap.Ns builtinsNs mb) (hbb : ∀ x : Str, x ≠ "__name__" → mb x = bootBuiltins x) (hlim : s₁.heap.NoLimit) (hg : s₁.gens = #[])
    (ha : s₁.heap.get? a = some { cls := .type "list", data := .seq vs.toArray }) (hi : IntsAre vs ns) (hl : ns.length ≤ sizeLine) (hr : Room k callerA)
    (F : ∀ base : Heap, K.In base → base.Ns mainGlobals mg → FnOk P w K mg base CX k fa fd [x] sp) (hbind : ∀ (s : Shared) (u : Value), BindsTo s fd ⟨[u], []⟩ [(x, u)])
    (hsp : ∀ H : Hp, Only H → SqL K H a (ns.map V.int) → sp [.ref a] H (fun v _ => v = .bl true) fun _ _ _ => False)
    (hCX : ∀ H e s', CX [] H s₁ (fun _ _ _ => False) e s' → False) :
    codeAny (model P w) callerA (.call (.ref fa) ⟨[.ref a], []⟩) (fun r s' => r = .ok (.ret (.bool true)) ∧ OldK s₁.heap s'.heap ∧ s'.os = s₁.os ∧ AllBare s'.gens) s₁ := by
  have rv := vals_ints hi
  have lenV := hi.length
  -- from an abstract heap in which nothing but the script may be tracked
  have core : ∀ H : Hp, Only H → SqL K H a (ns.map V.int) → HOk P w H s₁.heap → (∀ b, H b ≠ none → b = a) → (H a ≠ none → K.lookup a = none) →
      codeAny (model P w) callerA (.call (.ref fa) ⟨[.ref a], []⟩) (fun r s' => r = .ok (.ret (.bool true)) ∧ OldK s₁.heap s'.heap ∧ s'.os = s₁.os ∧ AllBare s'.gens) s₁ := by
    intro H hO hS hok hA hK
    have base_of : ∀ {b : Addr} {o : Obj}, s₁.heap.get? b = some o → H b = none → (hidT s₁.heap H).get? b = some o := fun e n => hidT_get e n
    have noA : ∀ {b : Addr} {o : Obj} {es : Array DictEntry} {ep : Nat}, s₁.heap.get? b = some o → o.data = .dict es ep → H b = none := fun {b o es ep} e d => by
      cases q : H b with
      | none => rfl
      | some u =>
        have e' : b = a := hA b (by rw [q]; simp)
        subst e'
        rw [ha] at e; cases e
        have d' : Data.seq vs.toArray _ = Data.dict es ep := d
        cases d'
    have nsK : ∀ {b : Addr} {m : Str → Option Value}, s₁.heap.Ns b m → (hidT s₁.heap H).Ns b m := fun {b m} ⟨o, es, ep, e, d, r⟩ => ⟨o, es, ep, base_of e (noA e d), d, r⟩
    have hKb : K.In (hidT s₁.heap H) := fun b o e => base_of (KX b o e) (by
      cases q : H b with
      | none => rfl
      | some u =>
        have e' : b = a := hA b (by rw [q]; simp)
        subst e'
        rw [hK (by rw [q]; simp)] at e; cases e)
    have hM : Mod K mg (hidT s₁.heap H) := ⟨hKb, nsK hns, ⟨mb, nsK hb, hbb⟩, let ⟨mc, h1, h2⟩ := hlim; ⟨mc, nsK h1, h2⟩⟩
    have e0 : Env0 P w K mg (hidT s₁.heap H) callerA [] s₁ H := ⟨rfl, hM, fun b o e => of_hidT e, Nat.le_of_eq (hidT_size _ _), trivial, fun b hb => absurd (show b ∈ ([] : List Addr) from hb) (by simp), hok, .of_eq hg⟩
    refine codeAny_mono ((F _ hKb (nsK hns)).run callerA [] s₁ H ⟨[.ref a], []⟩ [.ref a] [.ref a] _ _ hr e0 (hbind s₁ (.ref a)) (.cons rfl .nil) (hsp H hO hS)) fun r s' h => ?_
    cases r with
    | error e => exact (hCX H e s' h).elim
    | ok fl =>
      cases fl with
      | next => exact False.elim h
      | brk => exact False.elim h
      | cont => exact False.elim h
      | ret u =>
        obtain ⟨v, H', os, bare, un, hok', r', q⟩ := h
        have q' : v = .bl true := q
        subst q'
        obtain rfl : u = Value.bool true := r'
        refine ⟨rfl, OldK.of_keep fun b o e => ?_, os, bare⟩
        cases q : H b with
        | none => exact un.keep b o e q (by intro z; exact absurd (show b ∈ ([] : List Addr) from z) (by simp)) (by simp)
        | some u =>
          rcases hO b with z | ⟨ob, xs, z⟩
          · rw [q] at z; cases z
          · have z2 := un.frzs b ob _ z
            obtain ⟨e1, _⟩ := hok b _ z
            obtain ⟨e2, _⟩ := hok' b _ z2
            rw [e] at e1; cases e1
            exact e2
  cases hk : K.lookup a with
  | some o =>
    -- the script is one of the module's own objects
    have e := KX a o hk
    rw [ha] at e
    cases e
    refine core (fun _ => none) (fun _ => .inl rfl) (.inr ⟨_, vs.toArray, _, hk, rfl, rfl, rfl, by rw [List.size_toArray, lenV]; exact hl, by simpa using rv⟩) (fun b u z => by have z' : (none : Option HO) = some u := z; cases z') (fun b z => absurd rfl z) fun z => absurd rfl z
  | none =>
    refine core (fun b => if b = a then some (.frz { cls := .type "list", data := .seq vs.toArray } (.lst (ns.map V.int))) else none) (fun b => ?_) (.inl (.inr ⟨{ cls := .type "list", data := .seq vs.toArray }, if_pos rfl⟩)) (fun b u z => ?_) (fun b z => ?_) fun _ => hk
    · by_cases hb : b = a
      · exact .inr ⟨_, _, if_pos hb⟩
      · exact .inl (if_neg hb)
    · by_cases hb : b = a
      · have z' := (if_pos hb).symm.trans z
        cases z'
        subst hb
        exact ⟨ha, by rw [List.length_map]; exact hl, vs, _, rv, ha⟩
      · have z' := (if_neg hb).symm.trans z
        cases z'
    · by_cases hb : b = a
      · exact hb
      · exact absurd (if_neg hb) z
end L2

namespace L2
open PySem PySem.Spec PyProof.Rows

noncomputable abbrev KOf {K : PySem.W.Frag} {h : Heap} (_ : K.In h) : PySem.W.Frag := K

/-- the goal that k_head leaves (case hc), from the law's promise. F gives the function object fd (K's own) once, then the promise over every base -/
theorem walk_of {l : PySem.W.OpenLaw} {n k : Nat} {q : Program} {loose : List Str} {XP : (Str → Option Value) → Heap → Prop} {YP : World → Heap → Prop} {d : DefRec} {K : Params → PySem.W.Frag} {CX : World → CXT} {sp : World → Sp} {x : Str}
    (hn : l.most = some n) (hn2 : n ≤ sizeLine) (hdf : d.params.defaults = []) (hr : Room k callerA)
    (hY : ∀ (w : World) (h : Heap), YP w h → (K w.params).In h)
    (F : ∀ (w : World) (mg : Str → Option Value) (fa : Addr) (h : Heap), (K w.params).In h → h.Ns mainGlobals mg → mg d.name = some (.ref fa) →
      ∃ fd : FuncData, (∀ (s : Shared) (u : Value), BindsTo s fd ⟨[u], []⟩ [(x, u)]) ∧
        ∀ base : Heap, (K w.params).In base → base.Ns mainGlobals mg → FnOk l.prog w (K w.params) mg base (CX w) k fa fd [x] (sp w))
    (hsp : ∀ (w : World) (H : Hp) (a : Addr) (ns : List Int), ns.length ≤ n → Only H → SqL (K w.params) H a (ns.map V.int) → sp w [.ref a] H (fun v _ => v = .bl true) fun _ _ _ => False)
    (hCX : ∀ (w : World) (H : Hp) (s : Shared) (e : Value) (s' : Shared), CX w [] H s (fun _ _ _ => False) e s' → False) :
    PySem.W.WalkO q loose XP YP l.row.toRowW d [] (fun f vs => PySem.call f vs) := by
  refine Att.attach_call hn hdf fun w s₀ s₁ mg mb fa o pm cd doc a vs ns G Y ho hd hcd hmg hobj hints hlen hg => ?_
  have KX := hY w _ Y
  obtain ⟨fd, hb, hF⟩ := F w mg fa _ KX G.T.g hmg
  exact law_call KX G.T.g G.T.b G.T.builtins G.T.nolimit hg hobj hints (Nat.le_trans hlen hn2) hr hF hb (fun H hO hS => hsp w H a ns hlen hO hS) fun H e s' => hCX w H s₁ e s'
/-- the same where the promise hangs on the written part alone: (sp := My.sp_law), no hole under a binder -/
theorem walk_ofK {l : PySem.W.OpenLaw} {n k : Nat} {q : Program} {loose : List Str} {XP : (Str → Option Value) → Heap → Prop} {YP : World → Heap → Prop} {d : DefRec} {K : Params → PySem.W.Frag} {CX : CXT} {sp : PySem.W.Frag → Sp} {x : Str}
    (hn : l.most = some n) (hn2 : n ≤ sizeLine) (hdf : d.params.defaults = []) (hr : Room k callerA)
    (hY : ∀ (w : World) (h : Heap), YP w h → (K w.params).In h)
    (F : ∀ (w : World) (mg : Str → Option Value) (fa : Addr) (h : Heap), (K w.params).In h → h.Ns mainGlobals mg → mg d.name = some (.ref fa) →
      ∃ fd : FuncData, (∀ (s : Shared) (u : Value), BindsTo s fd ⟨[u], []⟩ [(x, u)]) ∧
        ∀ base : Heap, (K w.params).In base → base.Ns mainGlobals mg → FnOk l.prog w (K w.params) mg base CX k fa fd [x] (sp (K w.params)))
    (hsp : ∀ (K : PySem.W.Frag) (H : Hp) (a : Addr) (ns : List Int), ns.length ≤ n → Only H → SqL K H a (ns.map V.int) → sp K [.ref a] H (fun v _ => v = .bl true) fun _ _ _ => False)
    (hCX : ∀ (H : Hp) (s : Shared) (e : Value) (s' : Shared), CX [] H s (fun _ _ _ => False) e s' → False) :
    PySem.W.WalkO q loose XP YP l.row.toRowW d [] (fun f vs => PySem.call f vs) :=
  walk_of (K := K) (CX := fun _ => CX) (sp := fun w => sp (K w.params)) hn hn2 hdf hr hY F (fun w H a ns h1 h2 h3 => hsp (K w.params) H a ns h1 h2 h3) fun _ H s e s' => hCX H s e s'
end L2

/-! SHORT WORDS over the layer: a def of the text, its body, what a loop and a test want. -/
namespace L2
open PySem PySem.Spec PyProof.Rows

/-! ### the text by places -/
noncomputable def defArgs (s : Stmt) : Arguments := match s with
  | .FunctionDef _ a _ _ _ _ _ _ _ _ => a
  | _ => { posonlyargs := [], args := [], vararg := none, kwonlyargs := [], kw_defaults := [], kwarg := none, defaults := [] }
noncomputable def defBody (s : Stmt) : List Stmt := match s with
  | .FunctionDef _ _ b _ _ _ _ _ _ _ => b
  | _ => []
noncomputable def defScope (s : Stmt) : Scope := match s with
  | .FunctionDef _ _ _ _ _ _ sc _ _ _ => sc
  | _ => { kind := .function, names := [], isGenerator := false, isCoroutine := false }

/-! ### no exception leaves a def -/
noncomputable abbrev CX0 : CXT := fun _ _ _ _ _ _ => False
noncomputable abbrev E0 : XK := fun _ _ _ => False
theorem pass0 {X : Cx} : Passes CX0 X E0 := fun _ _ _ _ _ _ _ h => h.elim

/-! ### a def (or method) of the text as it stands behind the top -/
structure Fun (K : PySem.W.Frag) (x qual : Str) (st : Stmt) (f : Addr) (fd : FuncData) : Prop where
  ex : ∃ (oc : Value) (od : Option Addr) (kV doc pm : Value) (an : Option Addr) (cdv ct : Value) (osl : Array (Option Value)),
    fd = PySem.W.fnOf x qual (defArgs st) (defBody st) (defScope st) .none kV doc pm an cdv ct ∧ K.lookup f = some ⟨oc, od, .func fd, osl⟩ ∧ PySem.W.codeIn K cdv qual = true
  kp : PySem.W.keepIn K (.ref f) = true
section
variable {P : Program} {w : World} {K : PySem.W.Frag} {mg : Str → Option Value} {base : Heap}
/-- THE RULE for a def: its body as a term of rules, and the reading of that term -/
theorem Fun.ok {x qual : Str} {st : Stmt} {f : Addr} {fd : FuncData} {N ps : List Str} {k : Nat} {sp : Sp} (F : Fun K x qual st f fd) (S : FnScope N ps (defScope st)) (len : ∀ vs H Q E, sp vs H Q E → vs.length = ps.length)
    (hbody : ∀ (cdv : Value) (A : Around) (outer : List Env) (s : Shared) (H : Hp) (vs : List V) (Q : VK) (E : XK), Room k (A.deeper (envOfC qual (defScope st) s.heap.objs.size f cdv)) → sp vs H Q E →
      ∃ t, PSs (cxOf CX0 P w K mg base N qual (defScope st) f cdv A outer s H E).nox (defBody st) t ∧ t { nx := fun _ H' => Q .non H', rt := Q } (start N vs) H) : FnOk P w K mg base CX0 (k + 1) f fd ps sp := by
  obtain ⟨oc, od, kV, doc, pm, an, cdv, ct, osl, rfl, lk, hcd⟩ := F.ex
  refine fn_of lk hcd S len fun A outer s H vs Q E hr hsp => ?_
  obtain ⟨t, h, q⟩ := hbody cdv A outer s H vs Q E hr hsp
  exact ⟨t, h.nox, q⟩
/-- how its arguments bind (no defaults): h is «fun _ _ _ _ _ _ us hl => match us, hl with | [_, _], _ => rfl», one _ a parameter -/
theorem Fun.binds {x qual : Str} {st : Stmt} {f : Addr} {fd : FuncData} {ps : List Str} (F : Fun K x qual st f fd)
    (h : ∀ (kV doc pm : Value) (an : Option Addr) (cdv ct : Value) (us : List Value), us.length = ps.length → bindArgs (PySem.W.fnOf x qual (defArgs st) (defBody st) (defScope st) .none kV doc pm an cdv ct) ⟨us, []⟩ = pure (ps.zip us)) : Binds K fd ps [] := by
  obtain ⟨oc, od, kV, doc, pm, an, cdv, ct, osl, rfl, lk, hcd⟩ := F.ex
  exact .all (h kV doc pm an cdv ct)
theorem fun_mk {x qual : Str} {st : Stmt} {f : Addr} {oc : Value} {od an : Option Addr} {osl : Array (Option Value)} {kV doc pm cdv ct : Value} (l : K.lookup f = some ⟨oc, od, .func (PySem.W.fnOf x qual (defArgs st) (defBody st) (defScope st) .none kV doc pm an cdv ct), osl⟩)
    (c : PySem.W.codeIn K cdv qual = true) (k : PySem.W.keepIn K (.ref f) = true) : Fun K x qual st f (PySem.W.fnOf x qual (defArgs st) (defBody st) (defScope st) .none kV doc pm an cdv ct) := ⟨⟨oc, od, kV, doc, pm, an, cdv, ct, osl, rfl, l, c⟩, k⟩
end
theorem hu_of {A : Around} {k : Nat} (hr : Room k A) : A.units + 1 < cLine := Nat.lt_of_le_of_lt (Nat.add_le_add_left (by decide : 1 ≤ 64) _) hr.units
theorem small1000 {n : Nat} (h : n ≤ 1000) : n < sizeLine := Nat.lt_of_le_of_lt h (by decide)

/-! ### expressions in short: the name that stands in the i-th slot -/
section
variable {X : Cx}
theorem pv (i : Nat) {x : Str} {pos : Pos} (hN : X.N[i]? = some x := by rfl) (hv : Vis X.env.scope x := by first | exact Or.inl rfl | exact Or.inr (Or.inl rfl) | exact Or.inr (Or.inr rfl)) (hd : (x == ("__debug__" : Str)) = false := by decide)
    (hcd : (x == ("__classdict__" : Str)) = false := by decide) : PE X (.Name x pos) (tVar i) := pe_var hN hv hd hcd
end

/-! ### tests -/
theorem iteF {A B : Prop} (h : B) : if false = true then A else B := by
  rw [if_neg Bool.false_ne_true]
  exact h
theorem iteT {A B : Prop} (h : A) : if true = true then A else B := by
  rw [if_pos rfl]
  exact h
theorem ite2 {c A B : Prop} [Decidable c] (h1 : c → A) (h2 : ¬ c → B) : if c then A else B := by
  by_cases h : c
  · rw [if_pos h]
    exact h1 h
  · rw [if_neg h]
    exact h2 h
/-! ### heaps -/
/-- all that was tracked is as it was -/
noncomputable def Same (H H' : Hp) : Prop := ∀ b o, H b = some o → H' b = some o
theorem Same.refl (H : Hp) : Same H H := fun _ _ h => h
theorem Same.trans {H H1 H2 : Hp} (a : Same H H1) (b : Same H1 H2) : Same H H2 := fun c o h => b c o (a c o h)
theorem Same.seq {K : PySem.W.Frag} {H H' : Hp} {a : Addr} {xs : List V} (e : Same H H') (h : SqL K H a xs) : SqL K H' a xs := by
  rcases h with (h | ⟨o, h⟩) | h
  · exact .inl (.inl (e _ _ h))
  · exact .inl (.inr ⟨o, e _ _ h⟩)
  · exact .inr h

end L2
namespace L2
open PySem PySem.Spec PyProof.Rows

/-! ### a comprehension's block -/
section
variable {X : Cx}
noncomputable abbrev cxComp (X : Cx) (N' : List Str) (scope : Scope) (cl : List (Str × Addr)) (C : Addr) (ex : List Addr) (s : Shared) (H : Hp) : Cx where
  prog := X.prog
  w := X.w
  K := X.K
  mg := X.mg
  base := X.base
  A := X.A
  N := N'
  s₀ := s
  H₀ := H
  env := compEnvC scope cl C X.env
  outer := X.stack
  stack := X.stack
  ex := ex
  fn := fun x => (cl.lookup x).isNone
  calm := X.calm
  pn := []
  xe := fun _ _ => False
noncomputable def PIfs (X : Cx) (ifs : List Expr) (t : TT) : Prop :=
  ∀ (pins : List (Addr × Obj)) (s : Shared) (σ : St) (H : Hp) (Q : Bool → Hp → Prop), Inv X pins σ H s → t σ H Q →
    wpAny (model X.prog X.w) X.A (forIn ifs true fun c r => if r = true then do let ok ← isTrue c X.env (eval c X.env); pure (ForInStep.yield ok) else pure (ForInStep.yield r)) (TP X pins σ Q) X.xe s
noncomputable def tYes : TT := fun _ H Q => Q true H
theorem pifs_nil : PIfs X [] tYes := fun _ _ _ H _ I h => wpAny_tests_nil ⟨H, I, h⟩
theorem pifs_one {c : Expr} {t : TT} (h : PT X c t) : PIfs X [c] t := fun pins s σ H Q I q => wpAny_tests_one (h pins s σ H Q I q)

/-- what was known of the slots is still so -/
noncomputable def Wk (σ σ2 : St) : Prop := σ.length = σ2.length ∧ ∀ (i : Nat) v, σ[i]? = some (some v) → σ2[i]? = some (some v)
noncomputable def compSt (n : Nat) (js : List Nat) (σ : St) : St := List.replicate n none ++ js.map fun j => (σ[j]?).join
noncomputable def tComp (wi : TI) (g : TG) (tt : TT) (te : TE) (n : Nat) (js : List Nat) : TE := fun σ H Q => wi σ H fun J H1 => ∀ D, H1 D = none → ∃ W : Nat → Nat → List V → Hp → Prop, (∃ m, W 0 m [] (upd H1 D (.lst []))) ∧ ∀ i m acc H2, W i m acc H2 →
  (J.stop i H2 ∧ Q (.ref D) H2) ∨ (J.go i H2 ∧ ∃ N : List V → Hp → Prop, (∀ acc' H', N acc' H' → ∃ m', m' < m ∧ W (i + 1) m' acc' H') ∧ ∀ x H3, J.yld i H2 x H3 → g x (compSt n js σ) H3 fun σ2 H4 => tt σ2 H4 fun b H5 =>
    if b = true then te σ2 H5 fun y H6 => H6 D = some (.lst acc) ∧ acc.length < sizeLine ∧ N (acc ++ [y]) (upd H6 D (.lst (acc ++ [y]))) else N acc H5)

theorem inv_comp {pins : List (Addr × Obj)} {σ : St} {H : Hp} {s : Shared} {fp : List Addr} {scope : Scope} {cl : List (Str × Addr)} {own : List Str} {fr : List (Str × Nat)} {h1 : Heap} {m0 : Str → Option Value} {tk : Nat}
    (I : Inv X pins σ H s) (hf : ∀ b ∈ fp, FpOk X pins H b) (hlt : ∀ b ∈ fp, b < s.heap.objs.size) (hkind : scope.kind = .function)
    (hcl : ∀ x c, cl.lookup x = some c → X.env.cells.lookup x = some c)
    (hkin : ∀ x, ((relabel scope X.env).names.lookup x = some .cell ∨ (relabel scope X.env).names.lookup x = some .free) → ∃ c, cl.lookup x = some c)
    (hfr : ∀ p ∈ fr, X.N[p.2]? = some p.1 ∧ X.env.kindOf p.1 = some .cell)
    (hvis : ∀ p ∈ fr, (relabel scope X.env).names.lookup p.1 = some .cell)
    (hn : h1.Ns s.heap.objs.size m0) (kk : ∀ b u, s.heap.get? b = some u → h1.get? b = some u) :
    Inv (cxComp X (own ++ fr.map (·.1)) scope cl s.heap.objs.size fp s H) [] (compSt own.length (fr.map (·.2)) σ) H { s with heap := h1, toks := tk } := by
  refine ⟨⟨I.ok.mod, hkind, I.ok.glob, I.ok.blt, Nat.le_refl _, fun x y c e1 e2 => I.ok.inj x y c (hcl x c e1) (hcl y c e2), hkin, fun x c h e => ?_, I.ok.hd, I.ok.frames, .inl rfl, fun b hb => ?_, I.bs, Nat.le_trans I.ok.bsz I.sz, fun b o e hb => ?_, fun b hb z => ?_, I.stack, I.stkFree⟩,
    rfl, I.bare, Un.kept kk, ⟨m0, hn, fun i x v e1 e2 e3 => ?_⟩, fun x c e => ?_, I.hok.fresh (Nat.le_refl _), fun x c e => I.freeC x c (hcl x c e), fun p hp => absurd (show p ∈ ([] : List (Addr × Obj)) from hp) (by simp), I.hok.kept kk, ?_⟩
  · have h' : (cl.lookup x).isNone = true := h
    have e' : cl.lookup x = some c := e
    rw [e'] at h'; cases h'
  · exact ⟨Nat.ne_of_lt (hlt b hb), fun x c e => (hf b hb).2.2.2.2.1 x c (hcl x c e)⟩
  · rcases (hf b hb).2.2.2.1 with z | z
    · exact I.ok.noex b o e z
    · exact absurd (Nat.lt_of_lt_of_le (Heap.lt_size (I.ok.bs b o e).1) z) (Nat.lt_irrefl _)
  · rcases List.mem_cons.mp (I.stkSub b z) with e | e
    · exact (hf b hb).2.1 e
    · exact (hf b hb).2.2.1 e
  · have e1' : (own ++ fr.map (·.1))[i]? = some x := e1
    have e2' : (List.replicate own.length none ++ (fr.map (·.2)).map fun j => (σ[j]?).join)[i]? = some (some v) := e2
    by_cases hi : i < own.length
    · rw [List.getElem?_append_left (by simpa using hi), List.getElem?_replicate] at e2'
      split at e2' <;> cases e2'
    · rw [List.getElem?_append_right (by omega)] at e1'
      rw [List.getElem?_append_right (by simpa using hi)] at e2'
      simp only [List.length_replicate, List.getElem?_map, Option.map_map] at e1' e2'
      cases q : fr[i - own.length]? with
      | none => rw [q] at e1'; cases e1'
      | some p =>
        rw [q] at e1' e2'
        simp only [Option.map_some, Option.some.injEq] at e1' e2'
        subst e1'
        have hp : p ∈ fr := List.mem_of_getElem? q
        obtain ⟨m, _, hl⟩ := I.loc
        have e3' : σ[p.2]? = some (some v) := by
          cases z : σ[p.2]? with
          | none => rw [Function.comp_apply, z] at e2'; cases e2'
          | some y => rw [Function.comp_apply, z] at e2'; simp only [Option.join] at e2'; rw [← e2']; rfl
        obtain ⟨u, r, l⟩ := hl p.2 p.1 v (hfr p hp).1 e3' (.inr (.inl (hfr p hp).2))
        refine ⟨u, r, ?_⟩
        rcases l with ⟨k, _⟩ | ⟨_, c, hc, z⟩
        · rw [(hfr p hp).2] at k; cases k
        · obtain ⟨c', hc'⟩ := hkin p.1 (.inl (hvis p hp))
          have e4 := hcl _ _ hc'
          rw [hc] at e4; cases e4
          obtain ⟨o, ho, hd⟩ := z
          exact .inr ⟨.inl (hvis p hp), c, hc', ⟨o, kk _ _ ho, hd⟩⟩
  · obtain ⟨v, o, ho, hd⟩ := I.cell x c (hcl x c e)
    exact ⟨v, o, kk _ _ ho, hd⟩
  · show (compSt own.length (fr.map (·.2)) σ).length = (own ++ fr.map (·.1)).length
    simp [compSt]

theorem compLoop_any {prog : Program} {w : World} {A : Around} {R : Result → Shared → Prop} {s : Shared} {elt target iter : Expr} {ifs : List Expr} {scope : Scope} {pos : Pos} {it acc : Value} {env : Env} (I : Nat → Shared → Prop)
    (turn : ∀ n s, I n s → wpAny (model prog w) A (pyNext it) (fun r s₁ => match r with
      | none => R (.ok .next) s₁
      | some v => wpAny (model prog w) A (letOwnedTupleGo target it v) (fun _ s₁' => wpAny (model prog w) A (assign target env v) (fun _ s₂ =>
          wpAny (model prog w) A (forIn ifs true fun c r => if r = true then do let ok ← isTrue c env (eval c env); pure (ForInStep.yield ok) else pure (ForInStep.yield r)) (fun ok s₃ =>
            if ok = true then wpAny (model prog w) A (eval elt env) (fun x s₄ =>
              wpAny (model prog w) A (call (.builtin "list.append") [acc, x]) (fun _ s₅ => ∃ m, m < n ∧ I m s₅) (notedBy (model prog w) A env fun e s' => R (.error e) s') s₄) (notedBy (model prog w) A env fun e s' => R (.error e) s') s₃
            else ∃ m, m < n ∧ I m s₃) (notedBy (model prog w) A env fun e s' => R (.error e) s') s₂) (notedBy (model prog w) A env fun e s' => R (.error e) s') s₁') (notedBy (model prog w) A env fun e s' => R (.error e) s') s₁) (notedBy (model prog w) A env fun e s' => R (.error e) s') s)
    (n : Nat) (h : I n s) :
    codeAny (model prog w) A (.compLoop (.ListComp elt [⟨target, iter, ifs, 0⟩] scope pos) 0 it acc env) R s := by
  refine codeAny_loop rfl I (fun n s hI => ?_) n h
  show wpAny _ A ((compTurn (.ListComp elt [⟨target, iter, ifs, 0⟩] scope pos) 0 it acc env).onRaise (fun x => do noteFrame x env; theTreesLotGoes x)) _ _ s
  refine wpAny_noted ?_
  rw [compTurn_list]
  refine wpAny_bind (wpAny_standAt (wpAny_bind (wpAny_mono (turn n s hI) (fun r s₁ h₁ => ?_) fun _ _ h' => h')))
  cases r with
  | none => exact wpAny_pure h₁
  | some v =>
    refine wpAny_bind (wpAny_mono h₁ (fun _ s₁' h₁' => ?_) fun _ _ h' => h')
    refine wpAny_bind (wpAny_mono h₁' (fun _ s₂ h₂ => wpAny_bind (wpAny_mono h₂ (fun ok s₃ h₃ => ?_) fun _ _ h' => h')) fun _ _ h' => h')
    cases ok with
    | false => exact wpAny_pure ⟨rfl, h₃⟩
    | true =>
      exact wpAny_bind (wpAny_bind (wpAny_mono h₃ (fun x s₄ h₄ => wpAny_bind (wpAny_mono h₄ (fun _ s₅ h₅ => wpAny_pure (wpAny_pure ⟨rfl, h₅⟩)) fun _ _ h' => h')) fun _ _ h' => h'))

theorem comp_block {elt tg iter : Expr} {ifs : List Expr} {scope : Scope} {pos : Pos} {g : TG} {tt : TT} {te : TE} {own : List Str} {fr : List (Str × Nat)} {cl : List (Str × Addr)}
    {pins : List (Addr × Obj)} {σ : St} {H : Hp} {s : Shared} {Q : VK} {it D : Addr} {fp : List Addr} {tn : Nat → Heap → Prop} {J : It} {W : Nat → Nat → List V → Hp → Prop} {m0 : Nat} {RR : Value → Addr → Result → Shared → Prop}
    (hRR : ∀ (s6 : Shared) (H5 : Hp) (m : Str → Option Value), Inv X pins σ H5 s6 → s6.heap.Ns s.heap.objs.size m → FpOk X pins H5 s.heap.objs.size → Q (.ref D) H5 → RR (.ref D) s.heap.objs.size (.ok .next) s6)
    (hc : X.calm = true) (hkind : scope.kind = .function) (hnc : ∀ y ∈ scope.names, y.2 ≠ .cell)
    (hcl : ∀ x c, cl.lookup x = some c → X.env.cells.lookup x = some c)
    (hkin : ∀ x, ((relabel scope X.env).names.lookup x = some .cell ∨ (relabel scope X.env).names.lookup x = some .free) → ∃ c, cl.lookup x = some c)
    (hfr : ∀ p ∈ fr, X.N[p.2]? = some p.1 ∧ X.env.kindOf p.1 = some .cell) (hvis : ∀ p ∈ fr, (relabel scope X.env).names.lookup p.1 = some .cell)
    (hw : ∀ x σ H R, σ.length = own.length + fr.length → (∀ (i : Nat), i < own.length → σ[i]? = some none) → g x σ H R → g x σ H fun σ2 H2 => Wk σ σ2 ∧ R σ2 H2)
    (hg : ∀ C ex s H, PG (cxComp X (own ++ fr.map (·.1)) scope cl C ex s H) tg g)
    (ht : ∀ C ex s H, PIfs (cxComp X (own ++ fr.map (·.1)) scope cl C ex s H) ifs tt)
    (he : ∀ C ex s H, PE (cxComp X (own ++ fr.map (·.1)) scope cl C ex s H) elt te)
    (I : Inv X pins σ H s) (T : Turn X.prog X.w X.K tg J fp it tn) (st : tn 0 s.heap) (hf : ∀ b ∈ fp, FpOk X pins H b) (w0 : W 0 m0 [] H)
    (turn : ∀ i m acc H2, W i m acc H2 → (J.stop i H2 ∧ Q (.ref D) H2) ∨ (J.go i H2 ∧ ∃ N : List V → Hp → Prop, (∀ acc' H', N acc' H' → ∃ m', m' < m ∧ W (i + 1) m' acc' H') ∧ ∀ x H3, J.yld i H2 x H3 → g x (compSt own.length (fr.map (·.2)) σ) H3 fun σ2 H4 => tt σ2 H4 fun b H5 =>
      if b = true then te σ2 H5 fun y H6 => H6 D = some (.lst acc) ∧ acc.length < sizeLine ∧ N (acc ++ [y]) (upd H6 D (.lst (acc ++ [y]))) else N acc H5)) :
    wpAny (model X.prog X.w) X.A (newFunctionEnv scope X.env.globals cl [] X.env.qual none .none (some X.env)) (fun cenv s₄ =>
      codeAny (model X.prog X.w) X.A (.compStart (.ListComp elt [⟨tg, iter, ifs, 0⟩] scope pos) 0 (.ref it) (.ref D) { cenv with scope := relabel scope X.env })
        (RR (.ref D) cenv.locals) s₄) X.xe s := by
  have hlt : ∀ b ∈ fp, b < s.heap.objs.size := fun b hb => by
    obtain ⟨o, e, _⟩ := T.obj 0 _ st b hb
    exact Heap.lt_size e
  refine wpAny_newFunctionEnv hnc (by intro y hy; simp at hy) (fun h₁ hns hsb => ?_) hkind
  have kk : ∀ b u, s.heap.get? b = some u → h₁.get? b = some u := fun b u e => (hsb.2 b (Nat.ne_of_lt (Heap.lt_size e))).trans (Heap.get?_push_of_some _ e)
  have I4 : Inv (cxComp X (own ++ fr.map (·.1)) scope cl s.heap.objs.size fp s H) [] (compSt own.length (fr.map (·.2)) σ) H { s with heap := h₁, toks := s.toks + ([] : List (Str × Value)).length } :=
    inv_comp I hf hlt hkind hcl hkin hfr hvis hns kk
  have st4 : tn 0 h₁ := T.keep _ _ _ st fun b _ o e => kk b o e
  have hσ : (compSt own.length (fr.map (·.2)) σ).length = own.length + fr.length := by simp [compSt]
  have hσ0 : ∀ (i : Nat), i < own.length → (compSt own.length (fr.map (·.2)) σ)[i]? = some none := fun i hi => by
    unfold compSt
    rw [List.getElem?_append_left (by simpa using hi), List.getElem?_replicate, if_pos hi]
  have stat : ∀ {H' : Hp}, (∀ b ∈ fp, H' b = none) → ∀ b ∈ fp, FpOk (cxComp X (own ++ fr.map (·.1)) scope cl s.heap.objs.size fp s H) [] H' b := fun hn b hb =>
    ⟨hn b hb, Nat.ne_of_lt (hlt b hb), fun z => (List.mem_cons.mp (I.stkSub b z)).elim (hf b hb).2.1 (hf b hb).2.2.1, .inl hb, fun x c e => (hf b hb).2.2.2.2.1 x c (hcl x c e), fun p hp => absurd (show p ∈ ([] : List (Addr × Obj)) from hp) (by simp)⟩
  have loop : ∀ s4 : Shared, s4 = { s with heap := h₁, toks := s.toks + ([] : List (Str × Value)).length } →
      codeAny (model X.prog X.w) X.A (.compLoop (.ListComp elt [⟨tg, iter, ifs, 0⟩] scope pos) 0 (.ref it) (.ref D) (compEnvC scope cl s.heap.objs.size X.env))
        (RR (.ref D) s.heap.objs.size) s4 := by
    rintro s4 rfl
    refine compLoop_any (fun n s' => ∃ i acc H', Inv (cxComp X (own ++ fr.map (·.1)) scope cl s.heap.objs.size fp s H) [] (compSt own.length (fr.map (·.2)) σ) H' s' ∧ tn i s'.heap ∧ (∀ b ∈ fp, H' b = none) ∧ W i n acc H') ?_ m0
      ⟨0, [], H, I4, st4, fun b hb => (hf b hb).1, w0⟩
    rintro n s5 ⟨i, acc, H5, I5, st5, fr5, w5⟩
    rcases turn i n acc H5 w5 with ⟨stop, q⟩ | ⟨go, N, hN, step⟩
    · refine wpAny_mono (T.done (cxComp X (own ++ fr.map (·.1)) scope cl s.heap.objs.size fp s H) rfl rfl rfl hc i [] s5 _ H5 _ I5 (stat fr5) st5 stop) (fun r s6 ⟨hr, I6⟩ => ?_) (fun _ _ z => z)
      subst hr
      obtain ⟨m6, hn6, _⟩ := id I6.loc
      have I7 : Inv X pins σ H5 s6 := I.call' (ch := fp) I6.os I6.base I6.hok I6.bare (fun b hb => ⟨(hf b hb).2.2.2.1, (hf b hb).2.1, (hf b hb).2.2.2.2.1, (hf b hb).2.2.2.2.2⟩)
      exact hRR s6 H5 m6 I7 hn6 (I.fpOk (H' := H5) (Nat.le_refl _) I6.free) q
    · refine wpAny_mono (T.item (cxComp X (own ++ fr.map (·.1)) scope cl s.heap.objs.size fp s H) rfl rfl rfl hc i [] s5 _ H5 _ I5 (stat fr5) st5 go) (fun r s6 ⟨u, hr, h6⟩ => ?_) (fun _ _ z => z)
      subst hr
      refine wpAny_mono h6 (fun _ s7 ⟨x, H7, I7, r7, y7, st7, fr7⟩ => ?_) (fun _ _ z => z)
      have I7' := I7.pinned (stat fr7) (T.obj _ _ st7)
      refine wpAny_mono (hg s.heap.objs.size fp s H _ s7 _ H7 x u _ I7' r7 (hw x _ H7 _ hσ hσ0 (step x H7 y7))) (fun _ s8 ⟨σ8, H8, I8, wk, q8⟩ => ?_) (fun _ _ z => False.elim z)
      have again : ∀ {s10 : Shared} {H10 : Hp} {acc' : List V}, Inv (cxComp X (own ++ fr.map (·.1)) scope cl s.heap.objs.size fp s H) ([] ++ pinsAt fp s7.heap) σ8 H10 s10 → N acc' H10 →
          ∃ m, m < n ∧ ∃ i acc H', Inv (cxComp X (own ++ fr.map (·.1)) scope cl s.heap.objs.size fp s H) [] (compSt own.length (fr.map (·.2)) σ) H' s10 ∧ tn i s10.heap ∧ (∀ b ∈ fp, H' b = none) ∧ W i m acc H' := fun {s10 H10 acc'} I10 n10 => by
        obtain ⟨m', hm, w10⟩ := hN acc' H10 n10
        refine ⟨m', hm, i + 1, acc', H10, I10.unpinned.weak wk.1 wk.2, T.keep _ _ _ st7 fun b hb o e => (I10.pin (b, o) (List.mem_append_right _ (List.mem_append_right _ (mem_pinsAt hb e)))).1, fun b hb => ?_, w10⟩
        obtain ⟨o, e, d⟩ := T.obj _ _ st7 b hb
        exact (I10.pin (b, o) (List.mem_append_right _ (List.mem_append_right _ (mem_pinsAt hb e)))).2.1
      refine wpAny_mono (ht s.heap.objs.size fp s H _ s8 σ8 H8 _ I8 q8) (fun b s9 ⟨H9, I9, q9⟩ => ?_) (fun _ _ z => False.elim z)
      cases b with
      | false =>
        exact again I9 q9
      | true =>
        refine wpAny_mono (he s.heap.objs.size fp s H _ s9 σ8 H9 _ I9 q9) (fun y s10 ⟨yv, H10, I10, r10, hD, hl, n10⟩ => ?_) (fun _ _ z => False.elim z)
        refine wpAny_mono (mt_append (X := cxComp X (own ++ fr.map (·.1)) scope cl s.heap.objs.size fp s H) _ s10 σ8 H10 (.ref D) [yv] (.ref D) [y] (fun _ H' => H' = upd H10 D (.lst (acc ++ [yv]))) I10 rfl (.cons r10 .nil) ⟨D, acc, yv, rfl, rfl, hD, hl, rfl⟩) (fun _ s11 ⟨_, H11, I11, _, e11⟩ => ?_) (fun _ _ z => False.elim z)
        subst e11
        exact again I11 n10
  exact codeAny_compStart_list (loop _ rfl) (T.self _ 0 _ _ _ st4 (loop _ rfl))

theorem pe_lcomp {elt tg iter : Expr} {ifs : List Expr} {scope : Scope} {pos : Pos} {wi : TI} {g : TG} {tt : TT} {te : TE} (own : List Str) (fr : List (Str × Nat)) (cl : List (Str × Addr))
    (hc : X.calm = true) (hclos : closureFor scope X.env = pure cl) (hkind : scope.kind = .function) (hnc : ∀ y ∈ scope.names, y.2 ≠ .cell)
    (hnames : ∀ y ∈ scope.names, y.2 = .local → scope.names.lookup y.1 = some .local)
    (hcl : ∀ x c, cl.lookup x = some c → X.env.cells.lookup x = some c)
    (hkin : ∀ x, ((relabel scope X.env).names.lookup x = some .cell ∨ (relabel scope X.env).names.lookup x = some .free) → ∃ c, cl.lookup x = some c)
    (hfr : ∀ p ∈ fr, X.N[p.2]? = some p.1 ∧ X.env.kindOf p.1 = some .cell) (hvis : ∀ p ∈ fr, (relabel scope X.env).names.lookup p.1 = some .cell)
    (hw : ∀ x σ H R, σ.length = own.length + fr.length → (∀ (i : Nat), i < own.length → σ[i]? = some none) → g x σ H R → g x σ H fun σ2 H2 => Wk σ σ2 ∧ R σ2 H2)
    (hi : PI X tg iter wi)
    (hg : ∀ C ex s H, PG (cxComp X (own ++ fr.map (·.1)) scope cl C ex s H) tg g)
    (ht : ∀ C ex s H, PIfs (cxComp X (own ++ fr.map (·.1)) scope cl C ex s H) ifs tt)
    (he : ∀ C ex s H, PE (cxComp X (own ++ fr.map (·.1)) scope cl C ex s H) elt te)
    (hs : ∀ x, foldedSetIterable iter X.env x = pure x := by intro _; rfl) :
    PE X (.ListComp elt [⟨tg, iter, ifs, 0⟩] scope pos) (tComp wi g tt te own.length (fr.map (·.2))) := by
  intro pins s σ H Q I h
  rw [eval_ListComp]
  refine wpAny_comprehension_free (use := none) rfl hs hclos hkind hnames (thn (hi pins s σ H _ I h) fun v s1 h1 => thn h1 fun itv s2 h2 => ?_)
  obtain ⟨it, fp, tn, J, H2, e, I2, T, st2, f2, h2⟩ := h2
  subst e
  obtain ⟨W, ⟨m0, w0⟩, turn⟩ := h2 s2.heap.objs.size I2.fresh
  have I3 := I2.lnew (its := []) (ys := []) (t' := s2.toks) .nil (Nat.zero_le _)
  refine wpAny_newObj_type (T := "list") ?_
  refine comp_block (RR := fun acc C => compPost (model X.prog X.w) X.A X.xe none (EP X pins σ Q) acc C) (W := W) (m0 := m0) (D := s2.heap.objs.size) (own := own) (fr := fr)
    (fun s6 H5 m I7 hn fc q => ⟨m, hn, fun h7 sb => ⟨.ref s2.heap.objs.size, H5, I7.turned (t' := s6.toks) (fun b o hb e => (sb.2 b hb).trans e) fc.1 fc.2.1 fc.2.2.2.1 fc.2.2.2.2.1 fc.2.2.2.2.2, rfl, q⟩⟩) hc hkind hnc hcl hkin hfr hvis hw hg ht he I3 T (T.keep _ _ _ st2 fun b _ o e => Heap.get?_push_of_some _ e) (fun b hb => ?_) w0 turn
  obtain ⟨o, e, _⟩ := T.obj _ _ st2 b hb
  exact ⟨by rw [upd_ne (Nat.ne_of_lt (Heap.lt_size e))]; exact (f2 b hb).1, (f2 b hb).2⟩

/-- the closure of a block, by the names in the order in which it is made -/
noncomputable def clOf (env : Env) (xs : List Str) : List (Str × Addr) := xs.map fun x => (x, (env.cells.lookup x).getD 0)
noncomputable def kinOk (names : List (Str × NameKind)) (xs : List Str) : Bool := names.all fun p => (!(decide (p.2 = .cell)) && !(decide (p.2 = .free))) || decide (p.1 ∈ xs)
theorem clOf_lookup {env : Env} : ∀ {xs : List Str} {x : Str}, x ∈ xs → ∃ c, (clOf env xs).lookup x = some c
  | [], _, h => absurd h (by simp)
  | y :: xs, x, h => by
    show ∃ c, List.lookup x ((y, (env.cells.lookup y).getD 0) :: clOf env xs) = some c
    rw [List.lookup_cons]
    cases e : x == y with
    | true => exact ⟨_, rfl⟩
    | false =>
      rcases List.mem_cons.mp h with rfl | h
      · rw [beq_self_eq_true] at e; cases e
      · exact clOf_lookup h
theorem clOf_cells {env : Env} : ∀ {xs : List Str}, (xs.all fun x => (env.cells.lookup x).isSome) = true → ∀ x c, (clOf env xs).lookup x = some c → env.cells.lookup x = some c
  | [], _, x, c, h => by cases h
  | y :: xs, ha, x, c, h => by
    rw [List.all_cons, Bool.and_eq_true] at ha
    have h' : List.lookup x ((y, (env.cells.lookup y).getD 0) :: clOf env xs) = some c := h
    rw [List.lookup_cons] at h'
    cases e : x == y with
    | true =>
      rw [e] at h'
      have exy : x = y := eq_of_beq e
      subst exy
      have hc : (env.cells.lookup x).getD 0 = c := Option.some.inj h'
      cases q : env.cells.lookup x with
      | none => rw [q] at ha; cases ha.1
      | some z => rw [q] at hc; rw [← hc]; rfl
    | false =>
      rw [e] at h'
      exact clOf_cells ha.2 x c h'
theorem kin_of {names : List (Str × NameKind)} {xs : List Str} {env : Env} (h : kinOk names xs = true) : ∀ x, (names.lookup x = some .cell ∨ names.lookup x = some .free) → ∃ c, (clOf env xs).lookup x = some c := fun x hx => by
  refine clOf_lookup ?_
  unfold kinOk at h
  rw [List.all_eq_true] at h
  rcases hx with hx | hx
  · have := h _ (PySem.mem_of_lookup hx)
    simpa using this
  · have := h _ (PySem.mem_of_lookup hx)
    simpa using this
theorem wk_name {n m i : Nat} (hi : i < n) : ∀ x σ H R, σ.length = n + m → (∀ (k : Nat), k < n → σ[k]? = some none) → gName i x σ H R → gName i x σ H fun σ2 H2 => Wk σ σ2 ∧ R σ2 H2 := fun x σ H R _ h0 h =>
  ⟨⟨by simp, fun k v e => by
    by_cases hk : k = i
    · subst hk; rw [h0 _ hi] at e; cases e
    · rw [List.getElem?_set_ne (Ne.symm hk)]; exact e⟩, h⟩

/-- over a range; Pv: what holds at the i-th turn of what was gathered and of the heap -/
theorem comp_range {n : Nat} {g : TG} {tt : TT} {te : TE} {σ0 : St} {lo : Int} {Q : VK} {D : Addr} {H : Hp} (Pv : Nat → List V → Hp → Prop) (h0 : Pv 0 [] H)
    (hs : ∀ i acc H2, i < n → Pv i acc H2 → g (.int (lo + i)) σ0 H2 fun σ2 H4 => tt σ2 H4 fun b H5 =>
      if b = true then te σ2 H5 fun y H6 => H6 D = some (.lst acc) ∧ acc.length < sizeLine ∧ Pv (i + 1) (acc ++ [y]) (upd H6 D (.lst (acc ++ [y]))) else Pv (i + 1) acc H5)
    (hd : ∀ acc H2, Pv n acc H2 → Q (.ref D) H2) :
    ∃ W : Nat → Nat → List V → Hp → Prop, (∃ m, W 0 m [] H) ∧ ∀ i m acc H2, W i m acc H2 →
      ((Itr lo n).stop i H2 ∧ Q (.ref D) H2) ∨ ((Itr lo n).go i H2 ∧ ∃ N : List V → Hp → Prop, (∀ acc' H', N acc' H' → ∃ m', m' < m ∧ W (i + 1) m' acc' H') ∧ ∀ x H3, (Itr lo n).yld i H2 x H3 → g x σ0 H3 fun σ2 H4 => tt σ2 H4 fun b H5 =>
        if b = true then te σ2 H5 fun y H6 => H6 D = some (.lst acc) ∧ acc.length < sizeLine ∧ N (acc ++ [y]) (upd H6 D (.lst (acc ++ [y]))) else N acc H5) := by
  refine ⟨fun i m acc H => m = n - i ∧ i ≤ n ∧ Pv i acc H, ⟨n, by simp, Nat.zero_le _, h0⟩, ?_⟩
  rintro i m acc H2 ⟨rfl, hi, p⟩
  by_cases hlt : i < n
  · refine .inr ⟨hlt, Pv (i + 1), fun acc' H' p' => ⟨n - (i + 1), by omega, rfl, hlt, p'⟩, fun x H3 y => ?_⟩
    obtain ⟨e, y⟩ := y
    subst e y
    exact hs i acc _ hlt p
  · have e : i = n := by omega
    subst e
    exact .inl ⟨Nat.le_refl _, hd acc H2 p⟩
/-- over a list that stays -/
theorem comp_list {K : PySem.W.Frag} {a : Addr} {xs : List V} {g : TG} {tt : TT} {te : TE} {σ0 : St} {Q : VK} {D : Addr} {H : Hp} (Pv : Nat → List V → Hp → Prop) (h0 : Pv 0 [] H) (hl : ∀ i acc H, i ≤ xs.length → Pv i acc H → SqL K H a xs)
    (hs : ∀ i x acc H2, xs[i]? = some x → Pv i acc H2 → g x σ0 H2 fun σ2 H4 => tt σ2 H4 fun b H5 =>
      if b = true then te σ2 H5 fun y H6 => H6 D = some (.lst acc) ∧ acc.length < sizeLine ∧ Pv (i + 1) (acc ++ [y]) (upd H6 D (.lst (acc ++ [y]))) else Pv (i + 1) acc H5)
    (hd : ∀ acc H2, Pv xs.length acc H2 → Q (.ref D) H2) :
    ∃ W : Nat → Nat → List V → Hp → Prop, (∃ m, W 0 m [] H) ∧ ∀ i m acc H2, W i m acc H2 →
      ((Itl K a).stop i H2 ∧ Q (.ref D) H2) ∨ ((Itl K a).go i H2 ∧ ∃ N : List V → Hp → Prop, (∀ acc' H', N acc' H' → ∃ m', m' < m ∧ W (i + 1) m' acc' H') ∧ ∀ x H3, (Itl K a).yld i H2 x H3 → g x σ0 H3 fun σ2 H4 => tt σ2 H4 fun b H5 =>
        if b = true then te σ2 H5 fun y H6 => H6 D = some (.lst acc) ∧ acc.length < sizeLine ∧ N (acc ++ [y]) (upd H6 D (.lst (acc ++ [y]))) else N acc H5) := by
  refine ⟨fun i m acc H => m = xs.length - i ∧ i ≤ xs.length ∧ Pv i acc H, ⟨xs.length, by simp, Nat.zero_le _, h0⟩, ?_⟩
  rintro i m acc H2 ⟨rfl, hi, p⟩
  have q := hl i acc H2 hi p
  by_cases hlt : i < xs.length
  · refine .inr ⟨⟨xs, xs[i], q, by simp [hlt]⟩, Pv (i + 1), fun acc' H' p' => ⟨xs.length - (i + 1), by omega, rfl, hlt, p'⟩, fun x H3 y => ?_⟩
    obtain ⟨e, y⟩ := y
    subst e
    exact hs i x acc _ (y xs q) p
  · have e : i = xs.length := by omega
    subst e
    exact .inl ⟨⟨xs, q, Nat.le_refl _⟩, hd acc H2 p⟩
end

/-! ### deep data -/
mutual
inductive IsD (K : PySem.W.Frag) (H : Hp) : PyData → V → Prop
  | non : IsD K H .none .non
  | bl (b : Bool) : IsD K H (.bool b) (.bl b)
  | int (i : Int) : IsD K H (.int i) (.int i)
  | str (x : Str) : IsD K H (.str x) (.str x)
  | tup {a : Addr} {vs : List V} {ds : List PyData} : SqT K H a vs → IsDs K H ds vs → IsD K H (.tuple ds) (.ref a)
  | lst {a : Addr} {vs : List V} {ds : List PyData} : SqL K H a vs → IsDs K H ds vs → IsD K H (.list ds) (.ref a)
inductive IsDs (K : PySem.W.Frag) (H : Hp) : List PyData → List V → Prop
  | nil : IsDs K H [] []
  | cons {d : PyData} {v : V} {ds : List PyData} {vs : List V} : IsD K H d v → IsDs K H ds vs → IsDs K H (d :: ds) (v :: vs)
end
section
variable {X : Cx} {pins : List (Addr × Obj)} {σ : St} {H : Hp} {s : Shared}
mutual
theorem IsD.reads (I : Inv X pins σ H s) : ∀ {d : PyData} {v : V} {u : Value}, IsD X.K H d v → RelV v u → ∃ as, Reads s.heap u d as
  | _, _, _, .non, r => by cases r; exact ⟨_, .none⟩
  | _, _, _, .bl b, r => by cases r; exact ⟨_, .bool b⟩
  | _, _, _, .int i, r => by obtain ⟨t, rfl⟩ := r; exact ⟨_, .int i t⟩
  | _, _, _, .str x, r => by obtain ⟨t, rfl⟩ := r; exact ⟨_, .str x t⟩
  | _, _, _, .tup h1 h2, r => by
    cases r
    obtain ⟨its, rv, ⟨o, e, c, n, d⟩, hz⟩ := I.tuple h1
    obtain ⟨as, ra⟩ := IsDs.reads I h2 rv
    exact ⟨_, .tuple e c d (by simpa using ra)⟩
  | _, _, _, .lst h1 h2, r => by
    cases r
    obtain ⟨its, rv, pl, hz⟩ := I.list h1
    obtain ⟨o, e, c, n, d⟩ := pl.isList
    obtain ⟨as, ra⟩ := IsDs.reads I h2 rv
    exact ⟨_, .list e c d (by simpa using ra)⟩
theorem IsDs.reads (I : Inv X pins σ H s) : ∀ {ds : List PyData} {vs : List V} {us : List Value}, IsDs X.K H ds vs → Vals vs us → ∃ as, ReadsAll s.heap us ds as
  | _, _, _, .nil, .nil => ⟨_, .nil⟩
  | _, _, _, .cons h t, .cons r rs => by
    obtain ⟨as, ra⟩ := IsD.reads I h r
    obtain ⟨bs, rb⟩ := IsDs.reads I t rs
    exact ⟨_, .cons ra rb⟩
end
noncomputable def rEqD (K : PySem.W.Frag) : R2 := fun x y H Q => ∃ d1 d2, IsD K H d1 x ∧ IsD K H d2 y ∧ d1.canLay0 = true ∧ d2.canLay0 = true ∧ d2.depth ≤ 50 ∧ Q (.bl (PyData.eqv d1 d2)) H
noncomputable def rNeD (K : PySem.W.Frag) : R2 := fun x y H Q => ∃ d1 d2, IsD K H d1 x ∧ IsD K H d2 y ∧ d1.canLay0 = true ∧ d2.canLay0 = true ∧ d2.depth ≤ 50 ∧ Q (.bl (!PyData.eqv d1 d2)) H
theorem op_eqD (hu : X.A.units + 64 < cLine) : OpR X (compareOp .Eq) (rEqD X.K) := by
  intro pins s σ H x y v u Q I rx ry h
  obtain ⟨d1, d2, h1, h2, c1, c2, hd, q⟩ := h
  obtain ⟨as, ra⟩ := IsD.reads I h1 rx
  obtain ⟨bs, rb⟩ := IsD.reads I h2 ry
  exact SeqAt.rcAt_reads ra rb c1 c2 (by omega) _ _ _ _ (show EP X pins σ Q _ s from ⟨.bl _, H, I, rfl, q⟩)
theorem op_neD (hu : X.A.units + 64 < cLine) : OpR X (compareOp .NotEq) (rNeD X.K) := by
  intro pins s σ H x y v u Q I rx ry h
  obtain ⟨d1, d2, h1, h2, c1, c2, hd, q⟩ := h
  obtain ⟨as, ra⟩ := IsD.reads I h1 rx
  obtain ⟨bs, rb⟩ := IsD.reads I h2 ry
  exact SeqAt.rcNeAt_reads ra rb c1 c2 (by omega) _ _ _ _ (show EP X pins σ Q _ s from ⟨.bl _, H, I, rfl, q⟩)

/-! ### more operations -/
theorem op_fdivB : OpR X (binaryOp .FloorDiv) (rI (fun _ j => 0 < j ∧ j.natAbs.log2 < 9000) fun i j => .int (i / j)) := opI fun i j _ _ _ _ _ hc q => by
  have h1 : (0 : Int) < j := hc.1
  exact floordiv_int (by omega) (by rw [Int.fdiv_eq_ediv_of_nonneg i (by omega)]; exact q) (.inl (PyProof.noPylong_of_log2 hc.2))
noncomputable def rBits : V → List V → Hp → VK → Prop := fun x xs H Q => ∃ i, x = .int i ∧ xs = [] ∧ Q (.int (Builtin.Int.intBits i : Nat)) H
theorem mt_bits : MtR X "int.bit_length" rBits := by
  intro pins s σ H x xs v us Q I rx rv h
  obtain ⟨i, rfl, rfl, q⟩ := h
  cases rv
  obtain ⟨t, rfl⟩ := rx
  exact call_int_bit_length ⟨.int _, H, I.tok _, ⟨_, rfl⟩, q⟩
noncomputable def rIsi (K : PySem.W.Frag) : List V → Hp → VK → Prop := fun xs H Q => ∃ x n t b, xs = [x, .ty n] ∧ TyOf K H x t ∧ PySem.W.kitOne K t (.type n) = some b ∧ Q (.bl b) H
theorem call_isi : CallR X (.builtin "isinstance") (rIsi X.K) := by
  intro pins s σ H xs us Q I rs h
  obtain ⟨x, n, t, b, rfl, ty, e, q⟩ := h
  cases rs with
  | cons r rr =>
    cases rr with
    | cons r2 rr =>
      cases rr
      cases r2
      exact isinst_ok I r ty e fun tk => ⟨.bl b, H, I.tok _, rfl, q⟩

/-! ### a def as its callers take it -/
structure Df (P : Program) (w : World) (K : PySem.W.Frag) (mg : Str → Option Value) (base : Heap) (k : Nat) (x : Str) (ps : List Str) (sp : Sp) : Prop where
  ex : ∃ f fd, FnOk P w K mg base CX0 k f fd ps sp ∧ Binds K fd ps [] ∧ mg x = some (.ref f) ∧ PySem.W.keepIn K (.ref f) = true
structure Tx (K : PySem.W.Frag) (mg : Str → Option Value) (x : Str) (st : Stmt) (ps : List Str) : Prop where
  ex : ∃ f fd, Fun K x x st f fd ∧ Binds K fd ps [] ∧ mg x = some (.ref f)
theorem Tx.df {P : Program} {w : World} {K : PySem.W.Frag} {mg : Str → Option Value} {base : Heap} {x : Str} {st : Stmt} {N ps : List Str} {k : Nat} {sp : Sp} (T : Tx K mg x st ps) (S : FnScope N ps (defScope st))
    (len : ∀ vs H Q E, sp vs H Q E → vs.length = ps.length)
    (hbody : ∀ (f : Addr) (cdv : Value) (A : Around) (outer : List Env) (s : Shared) (H : Hp) (vs : List V) (Q : VK) (E : XK), Room k (A.deeper (envOfC x (defScope st) s.heap.objs.size f cdv)) → sp vs H Q E →
      ∃ t, PSs (cxOf CX0 P w K mg base N x (defScope st) f cdv A outer s H E).nox (defBody st) t ∧ t { nx := fun _ H' => Q .non H', rt := Q } (start N vs) H) : Df P w K mg base (k + 1) x ps sp := by
  obtain ⟨f, fd, F, b, hm⟩ := T.ex
  exact ⟨f, fd, F.ok S len fun cdv A outer s H vs Q E hr h => hbody f cdv A outer s H vs Q E hr h, b, hm, F.kp⟩
noncomputable def tCF (sp : Sp) (t : TA) : TE := fun σ H Q => t σ H fun vs H1 => sp vs H1 Q E0
theorem pe_df {j k : Nat} {x : Str} {ps : List Str} {sp : Sp} {p pos : Pos} {e : Expr} {es : List Expr} {t : TA} (D : Df X.prog X.w X.K X.mg X.base j x ps sp) (hr : Room k X.A) (ha : PA X (e :: es) t) (hg : Gl X x := by rfl) (hj : j ≤ k := by decide)
    (hdb : (x == ("__debug__" : Str)) = false := by decide) (he : starEach (e :: es) X.env = (false, eval e X.env) :: starEach es X.env := by rfl) (hpl : (backTo pos (starEach es X.env)).any (·.1) = false := by rfl) :
    PE X (.Call (.Name x p) (e :: es) [] pos) (tCF sp t) := by
  obtain ⟨f, fd, F, b, hm, kp⟩ := D.ex
  have h := pe_call (ds := []) (dvs := []) (E := E0) (p := p) (pos := pos) F (hr.mono hj) hg hm kp b .nil pass0 ha hdb he hpl
  have e1 : tCall sp [] E0 t = tCF sp t := by
    funext σ H Q
    unfold tCall tCF
    simp only [List.append_nil]
  rw [e1] at h
  exact h
/-- the builtins that no module hides -/
structure Bn (mg : Str → Option Value) : Prop where
  len : mg "len" = none
  range : mg "range" = none
  isinstance : mg "isinstance" = none
  int : mg "int" = none
  bool : mg "bool" = none
  list : mg "list" = none
  tuple : mg "tuple" = none
  str : mg "str" = none
  dict : mg "dict" = none
  sorted : mg "sorted" = none
  enumerate : mg "enumerate" = none
  min : mg "min" = none
  max : mg "max" = none
  set : mg "set" = none
theorem Same.upd {H : Hp} {a : Addr} {o : HO} (h : H a = none) : Same H (upd H a o) := fun b u e => by rw [upd_ne (ne_of_none e h)]; exact e
theorem Same.tup {K : PySem.W.Frag} {H H' : Hp} {a : Addr} {xs : List V} (e : Same H H') (h : SqT K H a xs) : SqT K H' a xs := by
  rcases h with (h | ⟨o, h⟩) | h
  · exact .inl (.inl (e _ _ h))
  · exact .inl (.inr ⟨o, e _ _ h⟩)
  · exact .inr h
end
end L2
namespace L2
open PySem PySem.Spec PyProof.Rows
theorem tx_mk {K : PySem.W.Frag} {h : Heap} {mg : Str → Option Value} {x : Str} {st : Stmt} {ps : List Str} {f : Addr} {oc : Value} {od an : Option Addr} {osl : Array (Option Value)} {kV doc pm cdv ct : Value} (X : K.In h) (G : h.Ns mainGlobals mg)
    (a : PySem.W.nsIn K mainGlobals x = some (some (.ref f)))
    (l : K.lookup f = some ⟨oc, od, .func (PySem.W.fnOf x x (defArgs st) (defBody st) (defScope st) .none kV doc pm an cdv ct), osl⟩)
    (c : PySem.W.codeIn K cdv x = true) (k : PySem.W.keepIn K (.ref f) = true)
    (hb : ∀ (kV doc pm : Value) (an : Option Addr) (cdv ct : Value) (us : List Value), us.length = ps.length → bindArgs (PySem.W.fnOf x x (defArgs st) (defBody st) (defScope st) .none kV doc pm an cdv ct) ⟨us, []⟩ = pure (ps.zip us)) : Tx K mg x st ps :=
  ⟨f, _, fun_mk l c k, (fun_mk l c k).binds hb, PySem.W.mg_of X G a⟩
theorem bn_mk {K : PySem.W.Frag} {h : Heap} {mg : Str → Option Value} (X : K.In h) (G : h.Ns mainGlobals mg)
    (z0 : PySem.W.nsIn K mainGlobals "len" = some none) (z1 : PySem.W.nsIn K mainGlobals "range" = some none) (z2 : PySem.W.nsIn K mainGlobals "isinstance" = some none)
    (z3 : PySem.W.nsIn K mainGlobals "int" = some none) (z4 : PySem.W.nsIn K mainGlobals "bool" = some none) (z5 : PySem.W.nsIn K mainGlobals "list" = some none) (z6 : PySem.W.nsIn K mainGlobals "tuple" = some none)
    (z7 : PySem.W.nsIn K mainGlobals "str" = some none) (z8 : PySem.W.nsIn K mainGlobals "dict" = some none) (z9 : PySem.W.nsIn K mainGlobals "sorted" = some none) (z10 : PySem.W.nsIn K mainGlobals "enumerate" = some none)
    (z11 : PySem.W.nsIn K mainGlobals "min" = some none) (z12 : PySem.W.nsIn K mainGlobals "max" = some none) (z13 : PySem.W.nsIn K mainGlobals "set" = some none) : Bn mg :=
  ⟨PySem.W.mg_none_of X G z0, PySem.W.mg_none_of X G z1, PySem.W.mg_none_of X G z2, PySem.W.mg_none_of X G z3, PySem.W.mg_none_of X G z4, PySem.W.mg_none_of X G z5, PySem.W.mg_none_of X G z6, PySem.W.mg_none_of X G z7, PySem.W.mg_none_of X G z8, PySem.W.mg_none_of X G z9, PySem.W.mg_none_of X G z10, PySem.W.mg_none_of X G z11, PySem.W.mg_none_of X G z12, PySem.W.mg_none_of X G z13⟩
/-- a block cut behind its first statement by a word R of one's own -/
noncomputable def tSeqE (t u : TS) : TS := fun D σ H => ∃ R : St → Hp → Prop, t { D with nx := R } σ H ∧ ∀ σ' H', R σ' H' → u D σ' H'
theorem pss_consE {X : Cx} {st : Stmt} {rest : List Stmt} {t u : TS} (h1 : PS X st t) (h2 : PSs X rest u) : PSs X (st :: rest) (tSeqE t u) := by
  intro pins s σ H D I h
  obtain ⟨R, h, hR⟩ := h
  refine wpAny_execs_cons (thn (h1 pins s σ H { D with nx := R } I h) fun f s1 q => ?_)
  cases f with
  | next =>
    obtain ⟨σ', H', I', q⟩ := q
    exact h2 pins s1 σ' H' D I' (hR σ' H' q)
  | ret v => exact q
  | brk => exact q
  | cont => exact q
theorem len_ok {n : Nat} (h : Nat.ble n 1000 = true) : n ≤ sizeLine := Nat.le_trans (Nat.le_of_ble_eq_true h) (by decide)
end L2
namespace LM
end LM
namespace LM
end LM
namespace LM
end LM
namespace My
open PySem L2 LM PyProof.Rows
theorem bitAnd_nat (a b : Nat) : Builtin.bitAnd (a : Int) (b : Int) = ((a &&& b : Nat) : Int) := by
  rw [bitAnd_pp (by omega) (by omega)]
  simp only [Int.toNat_natCast]
theorem has_eq (c : Nat) (k : Int) (h : 0 ≤ k) : decide (V.int (Builtin.bitAnd ((c : Int) / 2 ^ k.toNat) 1) = V.int 1) = (decide (0 ≤ k) && c.testBit k.toNat) := by
  have e : (c : Int) / 2 ^ k.toNat = ((c / 2 ^ k.toNat : Nat) : Int) := by
    rw [Int.natCast_ediv, Int.natCast_pow]; rfl
  have e2 : Builtin.bitAnd ((c : Int) / 2 ^ k.toNat) 1 = ((c / 2 ^ k.toNat % 2 : Nat) : Int) := by
    rw [e]
    exact (bitAnd_nat _ 1).trans (by rw [Nat.and_one_is_mod])
  rw [e2, Nat.testBit_eq_decide_div_mod_eq, decide_eq_true h, Bool.true_and, Bool.eq_iff_iff, decide_eq_true_eq, decide_eq_true_eq]
  constructor
  · intro z
    have := V.int.inj z
    omega
  · intro z
    rw [z]; rfl
theorem pow_cast (j : Nat) : (1 : Int) * 2 ^ ((j : Int)).toNat = ((2 ^ j : Nat) : Int) := by
  rw [Int.one_mul, Int.toNat_natCast, Int.natCast_pow]; rfl
theorem bitOr_nat (a b : Nat) : Builtin.bitOr (a : Int) (b : Int) = ((a ||| b : Nat) : Int) := by
  have h := nat_or_add_and a b
  rw [bitOr_and, bitAnd_pp (by omega) (by omega)]
  simp only [Int.toNat_natCast]
  omega
theorem pow_pos1 (j : Int) : (0 : Int) < 1 * 2 ^ j.toNat := by
  rw [Int.one_mul]
  exact Int.pow_pos (by decide)
theorem pow_log (k : Nat) (h : k ≤ 64) : ((1 : Int) * 2 ^ ((k : Int)).toNat).natAbs.log2 < 9000 := by
  rw [pow_cast, Int.natAbs_natCast, Nat.log2_two_pow]
  omega
theorem lhas_eq (c k : Nat) : decide (V.int ((c : Int) / (1 * 2 ^ ((k : Int)).toNat) % 2) = V.int 1) = c.testBit k := by
  have e : (c : Int) / (1 * 2 ^ ((k : Int)).toNat) % 2 = ((c / 2 ^ k % 2 : Nat) : Int) := by
    rw [pow_cast, Int.natCast_emod, Int.natCast_ediv]; rfl
  rw [e, Nat.testBit_eq_decide_div_mod_eq, Bool.eq_iff_iff, decide_eq_true_eq, decide_eq_true_eq]
  constructor
  · intro z
    have := V.int.inj z
    omega
  · intro z
    rw [z]; rfl
noncomputable def isI : V → Bool
  | .int _ => true
  | _ => false
noncomputable def isB : V → Bool
  | .bl _ => true
  | _ => false
theorem kit_int (K : PySem.W.Frag) {H : Hp} {x : V} {n : String} (ty : TyOf K H x (.type n)) : PySem.W.kitOne K (.type n) (.type "int") = some (isI x || isB x) := by
  cases ty <;> kernel_rfl
theorem kit_bool (K : PySem.W.Frag) {H : Hp} {x : V} {n : String} (ty : TyOf K H x (.type n)) : PySem.W.kitOne K (.type n) (.type "bool") = some (isB x) := by
  cases ty <;> kernel_rfl
theorem kit_tt (K : PySem.W.Frag) : PySem.W.kitOne K (.type "tuple") (.type "tuple") = some true := by kernel_rfl
end My
namespace My
open PySem L2 LM PyProof.Rows
end My
namespace LM
open PyProof.Rows
theorem bit_ext {a b : Nat} (h : ∀ j, a.testBit j = b.testBit j) : a = b := Nat.eq_of_testBit_eq h
theorem bit_lt {c n k : Nat} (hc : c < 2 ^ n) (h : c.testBit k = true) : k < n := by
  rcases Nat.lt_or_ge k n with q | q
  · exact q
  · rw [Nat.testBit_lt_two_pow (Nat.lt_of_lt_of_le hc (Nat.pow_le_pow_right (by decide) q))] at h
    cases h
theorem dif_add (a b : Nat) : (a &&& b) + (a ^^^ (a &&& b)) = a := by
  have h := PyProof.Rows.nat_or_add_and (a &&& b) (a ^^^ (a &&& b))
  have e1 : (a &&& b) ||| (a ^^^ (a &&& b)) = a := bit_ext fun j => by
    simp only [Nat.testBit_or, Nat.testBit_xor, Nat.testBit_and]
    cases a.testBit j <;> cases b.testBit j <;> rfl
  have e2 : (a &&& b) &&& (a ^^^ (a &&& b)) = 0 := bit_ext fun j => by
    simp only [Nat.testBit_and, Nat.testBit_xor, Nat.zero_testBit]
    cases a.testBit j <;> cases b.testBit j <;> rfl
  rw [e1, e2] at h
  omega
noncomputable def dif (a b : Nat) : Nat := a - (a &&& b)
theorem dif_bit (a b j : Nat) : (dif a b).testBit j = (a.testBit j && !b.testBit j) := by
  have e : dif a b = a ^^^ (a &&& b) := by
    have := dif_add a b
    unfold dif
    omega
  rw [e]
  simp only [Nat.testBit_xor, Nat.testBit_and]
  cases a.testBit j <;> cases b.testBit j <;> rfl
theorem dif_lt {a b n : Nat} (h : a < 2 ^ n) : dif a b < 2 ^ n := by unfold dif; omega
/-- the lowest cell -/
noncomputable def lowN (c : Nat) : Nat := ((List.range 64).find? c.testBit).getD 64
theorem lowN_of {c L : Nat} (hL : L < 64) (h1 : c.testBit L = true) (h2 : ∀ j, j < L → c.testBit j = false) : lowN c = L := by
  unfold lowN
  have e : (List.range 64).find? c.testBit = some L := by
    rw [List.find?_eq_some_iff_append]
    refine ⟨h1, List.range L, (List.range (64 - L - 1)).map (fun x => L + 1 + x), ?_, fun j hj => by simpa using h2 j (List.mem_range.mp hj)⟩
    have : 64 = L + (1 + (64 - L - 1)) := by omega
    conv => lhs; rw [this]
    rw [List.range_add, List.range_add]
    simp [Nat.add_assoc]
  rw [e]; rfl
theorem low_pow : ∀ (c : Nat), c ≠ 0 → ∃ L, c - (c &&& (c - 1)) = 2 ^ L ∧ c.testBit L = true ∧ ∀ j, j < L → c.testBit j = false := by
  intro c
  induction c using Nat.strongRecOn with
  | _ c ih =>
    intro h0
    rcases Nat.mod_two_eq_zero_or_one c with e | e
    · obtain ⟨L, h1, h2, h3⟩ := ih (c / 2) (by omega) (by omega)
      refine ⟨L + 1, ?_, ?_, ?_⟩
      · have ha : c &&& (c - 1) = 2 * ((c / 2) &&& (c / 2 - 1)) := by
          refine bit_ext fun j => ?_
          cases j with
          | zero => rw [Nat.testBit_and, Nat.testBit_zero, e, Nat.testBit_zero]; simp
          | succ j =>
            rw [Nat.testBit_and, Nat.testBit_succ, Nat.testBit_succ, Nat.testBit_succ, Nat.mul_div_cancel_left _ (by decide), Nat.testBit_and]
            congr 2
            omega
        rw [ha, Nat.pow_succ, ← h1]
        omega
      · rw [Nat.testBit_succ]; exact h2
      · intro j hj
        cases j with
        | zero => rw [Nat.testBit_zero, e]; rfl
        | succ j => rw [Nat.testBit_succ]; exact h3 j (by omega)
    · refine ⟨0, ?_, by rw [Nat.testBit_zero, e]; rfl, fun j hj => by omega⟩
      have ha : c &&& (c - 1) = c - 1 := by
        refine bit_ext fun j => ?_
        cases j with
        | zero =>
          rw [Nat.testBit_and, Nat.testBit_zero, e, Nat.testBit_zero]
          simp
        | succ j =>
          rw [Nat.testBit_and, Nat.testBit_succ, Nat.testBit_succ]
          have : (c - 1) / 2 = c / 2 := by omega
          rw [this, Bool.and_self]
      rw [ha]
      omega
theorem low_spec {c : Nat} (hc : c < 2 ^ 64) (h0 : c ≠ 0) : c.testBit (lowN c) = true ∧ (∀ j, j < lowN c → c.testBit j = false) ∧ c - (c &&& (c - 1)) = 2 ^ lowN c := by
  obtain ⟨L, h1, h2, h3⟩ := low_pow c h0
  have e := lowN_of (bit_lt hc h2) h2 h3
  rw [e]
  exact ⟨h2, h3, h1⟩
theorem low_lt {c n : Nat} (hc : c < 2 ^ n) (hn : n ≤ 64) (h0 : c ≠ 0) : lowN c < n := bit_lt hc (low_spec (Nat.lt_of_lt_of_le hc (Nat.pow_le_pow_right (by decide) hn)) h0).1
end LM
namespace L2
end L2
namespace My
open PySem L2 LM PyProof.Rows
theorem bitAnd_dif (a b : Nat) : Builtin.bitAnd (a : Int) (Builtin.bitNot (b : Int)) = ((dif a b : Nat) : Int) := by
  rw [PyProof.Rows.bitAnd_not, bitAnd_nat]
  have := Nat.and_le_left (n := a) (m := b)
  unfold dif
  omega
theorem bits_pow (L : Nat) : Builtin.Int.intBits ((2 ^ L : Nat) : Int) = L + 1 := by
  unfold Builtin.Int.intBits
  have h0 : 2 ^ L ≠ 0 := Nat.ne_of_gt (Nat.two_pow_pos L)
  rw [if_neg (fun z => h0 (by have := eq_of_beq z; omega)), Int.natAbs_natCast, Nat.log2_two_pow]
theorem low_bits {c : Nat} (hc : c < 2 ^ 64) (h0 : c ≠ 0) : ((Builtin.Int.intBits (Builtin.bitAnd (c : Int) (-(c : Int))) : Nat) : Int) - 1 = ((lowN c : Nat) : Int) := by
  have e : -(c : Int) = Builtin.bitNot ((c - 1 : Nat) : Int) := by
    unfold Builtin.bitNot
    omega
  have h := (low_spec hc h0).2.2
  rw [e, bitAnd_dif]
  unfold dif
  rw [h, bits_pow]
  omega
end My
namespace My
open PySem L2 LM PyProof.Rows
noncomputable abbrev NV (L : List Nat) : List V := L.map fun k : Nat => V.int (k : Int)
theorem NV_app (a b : List Nat) : NV (a ++ b) = NV a ++ NV b := List.map_append
end My
namespace L2
open PySem PySem.Spec PyProof.Rows
section
variable {X : Cx} {K : PySem.W.Frag}
theorem ix_listK (h : X.K = K) : IxR X (rIxL K) := h ▸ ix_list
theorem ix_tupK (h : X.K = K) : IxR X (rIxT K) := h ▸ ix_tup
theorem call_len_seqK (h : X.K = K) : CallR X (.builtin "len") (fun xs H Q => ∃ p ys, xs = [.ref p] ∧ (SqL K H p ys ∨ SqT K H p ys) ∧ Q (.int ys.length) H) := h ▸ call_len_seq
end
/-- over a range, whatever is wanted at the end -/
theorem compR {n : Nat} {g : TG} {tt : TT} {te : TE} {σ0 : St} {lo : Int} {Q : Hp → Prop} {D : Addr} {H : Hp} (Pv : Nat → List V → Hp → Prop) (h0 : Pv 0 [] H)
    (hs : ∀ i acc H2, i < n → Pv i acc H2 → g (.int (lo + i)) σ0 H2 fun σ2 H4 => tt σ2 H4 fun b H5 =>
      if b = true then te σ2 H5 fun y H6 => H6 D = some (.lst acc) ∧ acc.length < sizeLine ∧ Pv (i + 1) (acc ++ [y]) (upd H6 D (.lst (acc ++ [y]))) else Pv (i + 1) acc H5)
    (hd : ∀ acc H2, Pv n acc H2 → Q H2) :
    ∃ W : Nat → Nat → List V → Hp → Prop, (∃ m, W 0 m [] H) ∧ ∀ i m acc H2, W i m acc H2 →
      ((Itr lo n).stop i H2 ∧ Q H2) ∨ ((Itr lo n).go i H2 ∧ ∃ N : List V → Hp → Prop, (∀ acc' H', N acc' H' → ∃ m', m' < m ∧ W (i + 1) m' acc' H') ∧ ∀ x H3, (Itr lo n).yld i H2 x H3 → g x σ0 H3 fun σ2 H4 => tt σ2 H4 fun b H5 =>
        if b = true then te σ2 H5 fun y H6 => H6 D = some (.lst acc) ∧ acc.length < sizeLine ∧ N (acc ++ [y]) (upd H6 D (.lst (acc ++ [y]))) else N acc H5) :=
  comp_range (Q := fun _ H => Q H) Pv h0 hs hd
/-- over a list that stays, whatever is wanted at the end -/
theorem compL {K : PySem.W.Frag} {a : Addr} {xs : List V} {g : TG} {tt : TT} {te : TE} {σ0 : St} {Q : Hp → Prop} {D : Addr} {H : Hp} (Pv : Nat → List V → Hp → Prop) (h0 : Pv 0 [] H) (hl : ∀ i acc H, i ≤ xs.length → Pv i acc H → SqL K H a xs)
    (hs : ∀ i x acc H2, xs[i]? = some x → Pv i acc H2 → g x σ0 H2 fun σ2 H4 => tt σ2 H4 fun b H5 =>
      if b = true then te σ2 H5 fun y H6 => H6 D = some (.lst acc) ∧ acc.length < sizeLine ∧ Pv (i + 1) (acc ++ [y]) (upd H6 D (.lst (acc ++ [y]))) else Pv (i + 1) acc H5)
    (hd : ∀ acc H2, Pv xs.length acc H2 → Q H2) :
    ∃ W : Nat → Nat → List V → Hp → Prop, (∃ m, W 0 m [] H) ∧ ∀ i m acc H2, W i m acc H2 →
      ((Itl K a).stop i H2 ∧ Q H2) ∨ ((Itl K a).go i H2 ∧ ∃ N : List V → Hp → Prop, (∀ acc' H', N acc' H' → ∃ m', m' < m ∧ W (i + 1) m' acc' H') ∧ ∀ x H3, (Itl K a).yld i H2 x H3 → g x σ0 H3 fun σ2 H4 => tt σ2 H4 fun b H5 =>
        if b = true then te σ2 H5 fun y H6 => H6 D = some (.lst acc) ∧ acc.length < sizeLine ∧ N (acc ++ [y]) (upd H6 D (.lst (acc ++ [y]))) else N acc H5) :=
  comp_list (Q := fun _ H => Q H) Pv h0 hl hs hd
end L2
namespace L2
open PySem PySem.Spec PyProof.Rows

/-! ### lists of pairs as tables -/
section
variable {κ : Type} [DecidableEq κ]
noncomputable def valV (kvs : List (κ × V)) (k : κ) : Option V := (kvs.find? fun kv => decide (kv.1 = k)).map (·.2)
/-- in its place, or at the end -/
noncomputable def putK (kvs : List (κ × V)) (k : κ) (v : V) : List (κ × V) :=
  if (kvs.any fun kv => decide (kv.1 = k)) = true then kvs.map (fun kv => if kv.1 = k then (kv.1, v) else kv) else kvs ++ [(k, v)]
theorem valV_pos {p : κ × V} {r : List (κ × V)} {k : κ} (e : p.1 = k) : valV (p :: r) k = some p.2 := by simp [valV, List.find?_cons, e]
theorem valV_neg {p : κ × V} {r : List (κ × V)} {k : κ} (e : ¬ p.1 = k) : valV (p :: r) k = valV r k := by simp [valV, List.find?_cons, e]
theorem valV_any (k : κ) : ∀ kvs : List (κ × V), (kvs.any fun kv => decide (kv.1 = k)) = (valV kvs k).isSome
  | [] => rfl
  | p :: r => by
    rw [List.any_cons]
    by_cases e : p.1 = k
    · simp only [valV_pos e, decide_eq_true e, Bool.true_or, Option.isSome_some]
    · rw [valV_neg e, decide_eq_false e, Bool.false_or]; exact valV_any k r
theorem valV_map (k j : κ) (y : V) : ∀ kvs : List (κ × V), valV (kvs.map fun kv => if kv.1 = k then (kv.1, y) else kv) j = (valV kvs j).map fun x => if j = k then y else x
  | [] => rfl
  | p :: r => by
    have ih := valV_map k j y r
    rw [List.map_cons]
    by_cases h : p.1 = k
    · rw [if_pos h]
      by_cases e : p.1 = j
      · rw [valV_pos (p := (p.1, y)) e, valV_pos e, Option.map_some, if_pos (e.symm.trans h)]
      · rw [valV_neg (p := (p.1, y)) e, valV_neg e, ih]
    · rw [if_neg h]
      by_cases e : p.1 = j
      · rw [valV_pos (p := p) e, valV_pos e, Option.map_some, if_neg (fun z => h (e.trans z))]
      · rw [valV_neg (p := p) e, valV_neg e, ih]
theorem valV_snoc (k j : κ) (y : V) : ∀ kvs : List (κ × V), valV kvs k = none → valV (kvs ++ [(k, y)]) j = if j = k then some y else valV kvs j
  | [], _ => by
    by_cases e : k = j
    · rw [if_pos e.symm]; exact valV_pos (p := (k, y)) e
    · rw [if_neg (fun z => e z.symm)]; exact valV_neg (p := (k, y)) e
  | p :: r, hn => by
    rw [List.cons_append]
    have hk : ¬ p.1 = k := fun z => by rw [valV_pos z] at hn; cases hn
    rw [valV_neg hk] at hn
    have ih := valV_snoc k j y r hn
    by_cases e : p.1 = j
    · rw [valV_pos e, valV_pos e, if_neg (fun z => hk (e.trans z))]
    · rw [valV_neg e, valV_neg e, ih]
theorem valV_put (kvs : List (κ × V)) (k j : κ) (y : V) : valV (putK kvs k y) j = if j = k then some y else valV kvs j := by
  unfold putK
  by_cases a : (kvs.any fun kv => decide (kv.1 = k)) = true
  · rw [if_pos a, valV_map]
    rw [valV_any] at a
    by_cases e : j = k
    · obtain ⟨x, hx⟩ := Option.isSome_iff_exists.mp a
      rw [if_pos e, e, hx, Option.map_some, if_pos rfl]
    · rw [if_neg e]
      cases valV kvs j with
      | none => rfl
      | some x => rw [Option.map_some, if_neg e]
  · rw [if_neg a]
    refine valV_snoc k j y kvs ?_
    rw [valV_any] at a
    cases q : valV kvs k with
    | none => rfl
    | some x => rw [q] at a; exact (a rfl).elim
theorem length_putK (kvs : List (κ × V)) (k : κ) (v : V) : (putK kvs k v).length ≤ kvs.length + 1 := by
  unfold putK
  split
  · rw [List.length_map]; omega
  · rw [List.length_append, List.length_cons, List.length_nil]; omega
theorem putK_new {kvs : List (κ × V)} {k : κ} (v : V) (h : valV kvs k = none) : putK kvs k v = kvs ++ [(k, v)] := by
  unfold putK
  rw [valV_any, h]
  exact if_neg (by decide)

theorem RelO.isSome_eq {o : Option V} {u : Option Value} (r : RelO o u) : o.isSome = u.isSome := by
  cases o with
  | none => cases u with
    | none => rfl
    | some _ => exact (show False from r).elim
  | some _ => cases u with
    | none => exact (show False from r).elim
    | some _ => rfl
/-- raw tables of the same keys -/
theorem KV.val {kvs : List (κ × V)} {vs : List (κ × Value)} (r : KV kvs vs) (k : κ) : RelO (valV kvs k) (valueAt vs k) := by
  unfold KV at r
  induction r with
  | nil => exact True.intro
  | @cons p q ps qs h t ih =>
    obtain ⟨h1, h2⟩ := h
    by_cases e : p.1 = k
    · have e' : q.1 = k := h1.symm.trans e
      have b : valueAt (q :: qs) k = some q.2 := by simp [valueAt, List.find?_cons, e']
      rw [valV_pos e, b]; exact h2
    · have e' : ¬ q.1 = k := fun z => e (h1.trans z)
      have b : valueAt (q :: qs) k = valueAt qs k := by simp [valueAt, List.find?_cons, e']
      rw [valV_neg e, b]; exact ih
theorem KV.any {kvs : List (κ × V)} {vs : List (κ × Value)} (r : KV kvs vs) (k : κ) : (kvs.any fun kv => decide (kv.1 = k)) = vs.any fun kv => decide (kv.1 = k) := by
  unfold KV at r
  induction r with
  | nil => rfl
  | cons h t ih => rw [List.any_cons, List.any_cons, ih, h.1]
theorem KV.repl {kvs : List (κ × V)} {vs : List (κ × Value)} (r : KV kvs vs) (k : κ) {y : V} {u : Value} (ry : RelV y u) :
    KV (kvs.map fun kv => if kv.1 = k then (kv.1, y) else kv) (vs.map fun kv => if kv.1 = k then (kv.1, u) else kv) := by
  unfold KV at r ⊢
  induction r with
  | nil => exact .nil
  | @cons p q ps qs h t ih =>
    rw [List.map_cons, List.map_cons]
    refine .cons ?_ ih
    obtain ⟨h1, h2⟩ := h
    by_cases e : p.1 = k
    · rw [if_pos e, if_pos (h1.symm.trans e)]; exact ⟨h1, ry⟩
    · rw [if_neg e, if_neg (fun z => e (h1.trans z))]; exact ⟨h1, h2⟩
theorem KV.put {kvs : List (κ × V)} {vs : List (κ × Value)} (r : KV kvs vs) (k : κ) {y : V} {u : Value} (ry : RelV y u) : KV (putK kvs k y) (stored vs k u) := by
  unfold putK stored
  rw [r.any k]
  by_cases e : (vs.any fun kv => decide (kv.1 = k)) = true
  · rw [if_pos e, if_pos e]; exact r.repl k ry
  · rw [if_neg e, if_neg e]; exact Paired.snoc r ⟨rfl, ry⟩
theorem KV.length {kvs : List (κ × V)} {vs : List (κ × Value)} (r : KV kvs vs) : kvs.length = vs.length := Paired.length r
end


/-! ### a tracked dict, its keys ints and texts or tuples of these -/
theorem kV_is {P : Program} {w : World} {k : Key} {u : Value} (r : RelV (kV k) u) : (mixKind P w).is k u = true := by
  cases k with
  | inl i => obtain ⟨t, e⟩ := (show ∃ t, u = Value.int i t from r); subst e; exact mixKind_int P w i t
  | inr x => obtain ⟨t, e⟩ := (show ∃ t, u = Value.str x t from r); subst e; exact mixKind_str P w x t
theorem items_are {P : Program} {w : World} : ∀ {ks : List Key} {us : List Value}, Vals (ks.map kV) us → ItemsAre (mixKind P w) ks us
  | [], _, r => by rw [List.map_nil] at r; cases r; exact .nil
  | k :: ks, _, r => by
    rw [List.map_cons] at r
    cases r with
    | cons h t => exact .cons (kV_is h) (items_are t)

/-- raw entries of a dict with tuple keys -/
noncomputable abbrev KT (H : Hp) : List (List Key × V) → List (List Key × Addr × Value) → Prop := Paired fun p q => p.1 = q.1 ∧ H q.2.1 = some (.tup (p.1.map kV)) ∧ RelV p.2 q.2.2
theorem KT.val {H : Hp} {kvs : List (List Key × V)} {xs : List (List Key × Addr × Value)} (r : KT H kvs xs) (k : List Key) : RelO (valV kvs k) ((atKey xs k).map (·.2)) := by
  induction r with
  | nil => exact True.intro
  | @cons p q ps qs h t ih =>
    obtain ⟨h1, _, h2⟩ := h
    by_cases e : p.1 = k
    · have e' : q.1 = k := h1.symm.trans e
      have b : atKey (q :: qs) k = some q.2 := by simp [atKey, List.find?_cons, e']
      rw [valV_pos e, b]; exact h2
    · have e' : ¬ q.1 = k := fun z => e (h1.trans z)
      have b : atKey (q :: qs) k = atKey qs k := by simp [atKey, List.find?_cons, e']
      rw [valV_neg e, b]; exact ih
theorem KT.repl {H : Hp} {kvs : List (List Key × V)} {xs : List (List Key × Addr × Value)} (r : KT H kvs xs) (k : List Key) {y : V} {u : Value} (ry : RelV y u) :
    KT H (kvs.map fun kv => if kv.1 = k then (kv.1, y) else kv) (xs.map (putAt k u)) := by
  induction r with
  | nil => exact .nil
  | @cons p q ps qs h t ih =>
    rw [List.map_cons, List.map_cons]
    refine .cons ?_ ih
    obtain ⟨h1, h2, h3⟩ := h
    unfold putAt
    by_cases e : p.1 = k
    · rw [if_pos e, if_pos (h1.symm.trans e)]; exact ⟨h1, h2, ry⟩
    · rw [if_neg e, if_neg (fun z => e (h1.trans z))]; exact ⟨h1, h2, h3⟩
theorem KT.put {H : Hp} {kvs : List (List Key × V)} {xs : List (List Key × Addr × Value)} (r : KT H kvs xs) (k : List Key) {b : Addr} {y : V} {u : Value} (hb : H b = some (.tup (k.map kV))) (ry : RelV y u) :
    KT H (putK kvs k y) (storedH xs k b u) := by
  have e : (kvs.any fun kv => decide (kv.1 = k)) = (atKey xs k).isSome := by
    rw [valV_any, (r.val k).isSome_eq, Option.isSome_map]
  unfold putK storedH
  rw [e]
  by_cases q : (atKey xs k).isSome = true
  · rw [if_pos q, if_pos q]; exact r.repl k ry
  · rw [if_neg q, if_neg q]; exact Paired.snoc r ⟨rfl, hb, ry⟩
theorem KT.keeps {H H' : Hp} {kvs : List (List Key × V)} {xs : List (List Key × Addr × Value)} (r : KT H kvs xs) (ht : ∀ b ys, H b = some (.tup ys) → H' b = some (.tup ys)) : KT H' kvs xs :=
  Paired.mapP r fun _ _ z => ⟨z.1, ht _ _ z.2.1, z.2.2⟩

section
variable {P : Program} {w : World} {H : Hp} {h : Heap} {a : Addr}
theorem rd_of {u : HO} (ok : HOk P w H h) (e : Rd H a u) : ObjOk P w H h a u := e.ok ok
theorem dk_rd {kvs : List (Key × V)} (ok : HOk P w H h) (e : Rd H a (.dK kvs)) : kvs.length ≤ sizeLine ∧ (a == sysModules) = false ∧ ∃ vs, KV kvs vs ∧ h.DictOf (mixKind P w) a vs :=
  show ObjOk P w H h a (.dK kvs) from rd_of ok e
theorem dk_of {kvs : List (Key × V)} (ok : HOk P w H h) (e : H a = some (.dK kvs)) : kvs.length ≤ sizeLine ∧ (a == sysModules) = false ∧ ∃ vs, KV kvs vs ∧ h.DictOf (mixKind P w) a vs := dk_rd ok (.inl e)
/-- a tracked tuple of ints and texts is a key -/
theorem key_of {ks : List Key} (ok : HOk P w H h) (e : H a = some (.tup (ks.map kV))) : (tupleKind (mixKind P w)).is h ks a := by
  obtain ⟨_, its, r, o, h1, h2, n, h3⟩ := (show ObjOk P w H h a (.tup (ks.map kV)) from ok a _ e)
  exact ⟨o, its.toArray, n, h1, h2, h3, by simpa using items_are r⟩
theorem dt_rd {kvs : List (List Key × V)} (ok : HOk P w H h) (e : Rd H a (.dT kvs)) : kvs.length ≤ sizeLine ∧ (a == sysModules) = false ∧
    ∃ xs, KT H kvs xs ∧ h.DictOfH (tupleKind (mixKind P w)) a xs := by
  obtain ⟨z, y, xs, r, o, es, ep, h1, h2, h3, h4, h5⟩ := (show ObjOk P w H h a (.dT kvs) from rd_of ok e)
  refine ⟨z, y, xs, r, o, es, ep, h1, h2, h3, h4, fun x hx => ?_, h5⟩
  have all : ∀ {l : List (List Key × V)} {m : List (List Key × Addr × Value)}, KT H l m → ∀ x ∈ m, (tupleKind (mixKind P w)).is h x.1 x.2.1 := by
    intro l m q
    induction q with
    | nil => intro x hx; exact nomatch hx
    | @cons p q ps qs hq t ih =>
      intro x hx
      rcases List.mem_cons.mp hx with e | hx
      · subst e
        exact key_of ok (by rw [← hq.1]; exact hq.2.1)
      · exact ih x hx
  exact all r x hx
theorem dt_of {kvs : List (List Key × V)} (ok : HOk P w H h) (e : H a = some (.dT kvs)) : kvs.length ≤ sizeLine ∧ (a == sysModules) = false ∧
    ∃ xs, KT H kvs xs ∧ h.DictOfH (tupleKind (mixKind P w)) a xs := dt_rd ok (.inl e)
end

/-- what the dict at a holds at the key y -/
noncomputable def DGet (H : Hp) (a : Addr) (y : V) (r : Option V) : Prop :=
  (∃ kvs k, Rd H a (.dK kvs) ∧ y = kV k ∧ r = valV kvs k) ∨ ∃ kvs k b, Rd H a (.dT kvs) ∧ y = .ref b ∧ H b = some (.tup (k.map kV)) ∧ r = valV kvs k
/-- the heap behind a[y] = v -/
noncomputable def DPut (H : Hp) (a : Addr) (y v : V) (H' : Hp) : Prop :=
  (∃ kvs k, H a = some (.dK kvs) ∧ y = kV k ∧ kvs.length < sizeLine ∧ H' = upd H a (.dK (putK kvs k v))) ∨
  ∃ kvs k b, H a = some (.dT kvs) ∧ y = .ref b ∧ H b = some (.tup (k.map kV)) ∧ kvs.length < sizeLine ∧ H' = upd H a (.dT (putK kvs k v))
theorem DGet.k {H : Hp} {a : Addr} {kvs : List (Key × V)} {k : Key} (e : H a = some (.dK kvs)) : DGet H a (kV k) (valV kvs k) := .inl ⟨kvs, k, .inl e, rfl, rfl⟩
theorem DPut.k {H : Hp} {a : Addr} {kvs : List (Key × V)} {k : Key} {v : V} (e : H a = some (.dK kvs)) (hl : kvs.length < sizeLine) : DPut H a (kV k) v (upd H a (.dK (putK kvs k v))) := .inl ⟨kvs, k, e, rfl, hl, rfl⟩
section
variable {X : Cx} {pins : List (Addr × Obj)} {σ : St} {H : Hp} {s : Shared} {a : Addr} {y v : V} {u r : Value} {o : Option V} {A : Around} {E : Value → Shared → Prop}

theorem Inv.big (I : Inv X pins σ H s) : sysModules < s.heap.objs.size := by
  have h : mainGlobals < s.heap.objs.size := (I.mod.glob.keeps I.bk).lt
  exact Nat.lt_trans (by decide) h

/-- d[y], there -/
theorem d_getItem {Q : Value → Shared → Prop} (hu : A.units + 1 < cLine) (I : Inv X pins σ H s) (g : DGet H a y (some v)) (ry : RelV y u) (h : ∀ w' s', Inv X pins σ H s' → RelV v w' → Q w' s') :
    wpAny (model X.prog X.w) A (getItem (.ref a) u) Q E s := by
  rcases g with ⟨kvs, k, e, ey, l⟩ | ⟨kvs, k, b, e, ey, eb, l⟩
  · subst ey
    obtain ⟨z, hd, vs, rel, dd⟩ := dk_rd I.hok e
    obtain ⟨w', hw, rw'⟩ := RelO.some_of (v := v) (o := valueAt vs k) (by rw [l]; exact rel.val k)
    exact wpAny_getItem_of (kV_is ry) dd.mapOf hw (h w' _ (I.tok _) rw')
  · subst ey
    cases (show u = Value.ref b from ry)
    obtain ⟨z, hd, xs, rel, dd⟩ := dt_rd I.hok e
    obtain ⟨w', hw, rw'⟩ := RelO.some_of (v := v) (o := (atKey xs k).map (·.2)) (by rw [l]; exact rel.val k)
    obtain ⟨p, hp, hp2⟩ := Option.map_eq_some_iff.mp hw
    refine wpAny_getItem_heap (tupleKind_room_in1 hu) (key_of I.hok eb) dd hp ?_
    rw [hp2]
    exact h w' _ (I.tok _) rw'
/-- y in d -/
theorem d_in {Q : Value → Shared → Prop} (hu : A.units + 1 < cLine) (I : Inv X pins σ H s) (g : DGet H a y o) (ry : RelV y u) (h : ∀ s', Inv X pins σ H s' → Q (.bool o.isSome) s') :
    wpAny (model X.prog X.w) A (compareOp .In u (.ref a)) Q E s := by
  rcases g with ⟨kvs, k, e, ey, l⟩ | ⟨kvs, k, b, e, ey, eb, l⟩
  · subst ey
    obtain ⟨z, hd, vs, rel, dd⟩ := dk_rd I.hok e
    refine wpAny_in_of (kV_is ry) hd dd.mapOf ?_
    rw [← (rel.val k).isSome_eq, ← l]
    exact h _ (I.tok _)
  · subst ey
    cases (show u = Value.ref b from ry)
    obtain ⟨z, hd, xs, rel, dd⟩ := dt_rd I.hok e
    refine wpAny_in_heap (tupleKind_room_in1 hu) (key_of I.hok eb) hd dd ?_
    have q := (rel.val k).isSome_eq
    rw [Option.isSome_map] at q
    rw [← q, ← l]
    exact h _ (I.tok _)
/-- a dict's object is replaced -/
theorem d_write {h' : Heap} {t' : Nat} {ob : HO} (I : Inv X pins σ H s) (mu : Mut (H a)) (hs : Heap.SameBut a s.heap h') (he : ∃ q, h'.get? a = some q) (new : ObjOk X.prog X.w (upd H a ob) h' a ob) :
    Inv X pins σ (upd H a ob) { s with heap := h', toks := t' } :=
  I.write (x := a) (e := a) mu (.inl rfl) (fun b q hb z => (hs.2 b hb).trans z) he new
theorem dk_new {P : Program} {w : World} {H' : Hp} {h' : Heap} {kvs : List (Key × V)} {vs : List (Key × Value)} (z : kvs.length ≤ sizeLine) (hd : (a == sysModules) = false) (rel : KV kvs vs) (dd : h'.DictOf (mixKind P w) a vs) :
    ObjOk P w H' h' a (.dK kvs) := ⟨z, hd, vs, rel, dd⟩
/-- d[y] = v -/
theorem d_setItem {H' : Hp} {Q : Unit → Shared → Prop} (hu : A.units + 1 < cLine) (I : Inv X pins σ H s) (g : DPut H a y v H') (ry : RelV y u) (rv : RelV v r) (h : ∀ s', Inv X pins σ H' s' → Q () s') :
    wpAny (model X.prog X.w) A (setItem (.ref a) u r) Q E s := by
  rcases g with ⟨kvs, k, e, ey, l, eH⟩ | ⟨kvs, k, b, e, ey, eb, l, eH⟩
  · subst ey eH
    obtain ⟨z, hd, vs, rel, dd⟩ := dk_of I.hok e
    have hz : vs.length ≤ sizeLine := by rw [← rel.length]; exact z
    have hl : (putK kvs k v).length ≤ sizeLine := by have := length_putK kvs k v; omega
    refine wpAny_setItem_pairs (hsz := hz) (kV_is ry) dd fun h' dd' hs => h _ ?_
    have he : ∃ q, h'.get? a = some q := let ⟨q, _, _, hq, _⟩ := dd'; ⟨q, hq⟩
    exact d_write I (by rw [e]; exact True.intro) hs he (dk_new hl hd (rel.put k rv) dd')
  · subst ey eH
    cases (show u = Value.ref b from ry)
    obtain ⟨z, hd, xs, rel, dd⟩ := dt_of I.hok e
    have hz : xs.length ≤ sizeLine := by rw [← Paired.length rel]; exact z
    have hl : (putK kvs k v).length ≤ sizeLine := by have := length_putK kvs k v; omega
    refine wpAny_setItem_heap (hsz := hz) (tupleKind_room_in1 hu) (key_of I.hok eb) dd fun h' dd' hs => h _ ?_
    obtain ⟨q, es, ep, hq, h2, h3, h4, _, h5⟩ := dd'
    refine d_write I (by rw [e]; exact True.intro) hs ⟨q, hq⟩ ⟨hl, hd, _, (rel.put k eb rv).keeps fun c ys ec => ?_, q, es, ep, hq, h2, h3, h4, h5⟩
    rw [upd_ne (ne_of ec e (fun z => nomatch z))]
    exact ec
end

section
variable {X : Cx} {pins : List (Addr × Obj)} {σ : St} {H : Hp} {s : Shared} {a : Addr} {kvs : List (Key × V)} {k : Key} {u : Value} {A : Around} {E : Value → Shared → Prop}
end


/-! ### readings and rules -/
/-- the element of a subscription, not a slice -/
noncomputable def NoSl (i : Expr) : Prop := ∀ ov iv, subscripted i false ov iv = operate [ov, iv] (getItem ov iv)
theorem subD_of {prog : Program} {w : World} {A : Around} {E : Value → Shared → Prop} {s : Shared} {env : Env} {value slice : Expr} {pos : Pos} {T id : String} {Q : Value → Shared → Prop}
    (hl : typeLookup (.type T) "__getitem__" = pure (some (.builtin id))) (hs : NoSl slice)
    (h : wpAny (model prog w) A (eval value env) (fun o s₁ => wpAny (model prog w) A (eval slice env) (fun i s₂ => s₂.TypeIs o T ∧ wpAny (model prog w) A (getItem o i) Q E s₂) E s₁) E s) :
    wpAny (model prog w) A (eval (.Subscript value slice pos) env) Q E s := by
  refine Subscript_ (wpAny_mono h (fun o s₁ h₁ => wpAny_mono h₁ (fun i s₂ h₂ => ?_) fun _ _ x => x) fun _ _ x => x)
  obtain ⟨hT, h₂⟩ := h₂
  unfold subscriptTail
  refine wpAny_bind ?_
  rw [getitemInPython_of_ne hT.not_modules]
  refine wpAny_bind (wpAny_specialOf hT hl ?_)
  have fin : wpAny (model prog w) A (subscripted slice false o i) (fun r s₃ => wpAny (model prog w) A (letTemporaryGo value o r >>= fun _ => pure r) Q E s₃) E s₂ := by
    rw [hs o i]
    exact wpAny_operating (wpAny_mono h₂ (fun r s₃ h₃ => wpAny_bind (wpAny_letTemporaryGo (wpAny_pure h₃))) fun _ _ x => x)
  first
    | exact wpAny_pure (wpAny_bind fin)
    | exact wpAny_bind (wpAny_pure (wpAny_bind fin))
    | exact wpAny_bind fin

theorem dict_typeIs {X : Cx} {pins : List (Addr × Obj)} {σ : St} {H : Hp} {s : Shared} {a : Addr} {y : V} {o : Option V} (I : Inv X pins σ H s) (g : DGet H a y o) : s.TypeIs (.ref a) "dict" := by
  rcases g with ⟨kvs, k, e, _, _⟩ | ⟨kvs, k, b, e, _, _, _⟩
  · obtain ⟨_, _, vs, _, dd⟩ := dk_rd I.hok e
    exact dd.typeIs
  · obtain ⟨_, _, xs, _, dd⟩ := dt_rd I.hok e
    exact dd.typeIs
/-- d[y] -/
noncomputable def tDGet (td ty : TE) : TE := fun σ H Q => td σ H fun x H1 => ty σ H1 fun y H2 => ∃ a v, x = .ref a ∧ DGet H2 a y (some v) ∧ Q v H2
/-- y in d, y not in d -/
noncomputable def tDIn (ty td : TE) : TE := fun σ H Q => ty σ H fun y H1 => td σ H1 fun x H2 => ∃ a o, x = .ref a ∧ DGet H2 a y o ∧ Q (.bl o.isSome) H2
/-- d[y] = v -/
noncomputable def sDPut (td ty tv : TE) : TS := fun D σ H => tv σ H fun v H1 => td σ H1 fun x H2 => ty σ H2 fun y H3 => ∃ a H4, x = .ref a ∧ DPut H3 a y v H4 ∧ D.nx σ H4
section
variable {X : Cx} {o i e value : Expr} {pos pos' tpos : Pos} {td ty tv : TE}
theorem pe_dget (hu : X.A.units + 1 < cLine) (ho : PE X o td) (hi : PE X i ty) (hs : NoSl i) : PE X (.Subscript o i pos) (tDGet td ty) := by
  intro pins s σ H Q I h
  refine subD_of PySem.F.slot_dict_getitem.lookup hs (thn (ho pins s σ H _ I h) fun u s1 ⟨x, H1, I1, rx, q1⟩ => thn (hi pins s1 σ H1 _ I1 q1) fun iv s2 ⟨y, H2, I2, ry, a, v, ex, g, q2⟩ => ?_)
  subst ex
  obtain rfl : u = Value.ref a := rx
  exact ⟨dict_typeIs I2 g, d_getItem hu I2 g ry fun w' s3 I3 rw' => ⟨v, H2, I3, rw', q2⟩⟩
theorem pc_din (hu : X.A.units + 1 < cLine) (hi : PE X i ty) (ho : PE X o td) : PC X .In i o (tDIn ty td) := by
  intro pins s σ H Q I h
  refine thn (hi pins s σ H _ I h) fun iv s1 ⟨y, H1, I1, ry, q1⟩ => thn (ho pins s1 σ H1 _ I1 q1) fun u s2 ⟨x, H2, I2, rx, a, ov, ex, g, q2⟩ => ?_
  subst ex
  obtain rfl : u = Value.ref a := rx
  exact d_in hu I2 g ry fun s3 I3 => ⟨.bl ov.isSome, H2, I3, rfl, q2⟩
theorem ps_dput (hu : X.A.units + 1 < cLine) (ho : PE X o td) (hi : PE X i ty) (hv : PE X value tv) (hs : swapsWith value (some (.Subscript o i pos')) pos.line X.env = pure false) :
    PS X (.Assign [.Subscript o i pos'] value pos) (sDPut td ty tv) := by
  intro pins s σ H D I h
  refine wpAny_Assign_Subscript (thn (hv pins s σ H _ I h) fun r s1 ⟨v, H1, I1, rv, q1⟩ => thn (ho pins s1 σ H1 _ I1 q1) fun u s2 ⟨x, H2, I2, rx, q2⟩ => thn (hi pins s2 σ H2 _ I2 q2) fun iv s3 ⟨y, H3, I3, ry, a, H4, ex, g, q3⟩ => ?_) hs
  subst ex
  obtain rfl : u = Value.ref a := rx
  exact d_setItem hu I3 g ry rv fun s4 I4 => ⟨σ, H4, I4, q3⟩
end


/-! ### displays -/
theorem dk_empty {P : Program} {w : World} {H : Hp} (h : Heap) (hb : sysModules < h.objs.size) : ObjOk P w H (h.push { cls := .type "dict", data := .dict #[] }) h.objs.size (.dK []) :=
  ⟨Nat.zero_le _, beq_eq_false_iff_ne.mpr (Ne.symm (Nat.ne_of_lt hb)), [], .nil, Heap.DictOf.new h⟩
/-- {}, to be a dict of the kind that is wanted -/
noncomputable def tDNewK : TE := fun _ H Q => ∀ p, H p = none → Q (.ref p) (upd H p (.dK []))
section
variable {X : Cx} {pos : Pos}
theorem pe_dnewK : PE X (.Dict [] [] pos) tDNewK := fun pins s σ H Q I h =>
  wpAny_Dict_empty ⟨.ref s.heap.objs.size, _, I.laid (a := s.heap.objs.size) (o := .dK []) (t' := s.toks) (fun _ _ q => Heap.get?_push_of_some _ q) (Nat.le_refl _) (dk_empty s.heap I.big), rfl, h _ (I.hok.fresh (Nat.le_refl _))⟩
end

/-! ### methods -/
structure M2 (X : Cx) (o : Expr) (m : Str) (apos : Pos) (e f : Expr) (cpos : Pos) : Prop where
  base : attributeBase o m X.env (eval o X.env) = eval o X.env
  few : ((backTo cpos (starEach [e, f] X.env)).all (fun x => !x.1) && (backToKw cpos (keywordEach [] X.env)).all (fun x => x.1.isSome)
    && decide (([e, f] : List Expr).length + ([] : List Keyword).length + (if ([] : List Keyword).isEmpty then 0 else 1) < 30)) = true
  line : (apos.endLine == cpos.line) = true
  trees : backTo cpos (starEach [e, f] X.env) = [(false, eval e X.env), (false, eval f X.env)]

section
variable {X : Cx} {pins : List (Addr × Obj)} {σ : St} {H : Hp} {s : Shared} {a : Addr} {y d : V} {u r : Value} {o : Option V} {A : Around} {E : Value → Shared → Prop}
end

section
variable {X : Cx} {o e f : Expr} {apos cpos : Pos} {td ty tx : TE}
end

/-! ### dict(d): a copy -/
section
variable {X : Cx} {pins : List (Addr × Obj)} {σ : St} {H : Hp} {s : Shared} {a : Addr} {kvs : List (Key × V)} {A : Around} {E : Value → Shared → Prop}
end


section
variable {X : Cx} {pins : List (Addr × Obj)} {σ : St} {H : Hp} {s : Shared} {a : Addr} {y : V} {u : Value} {A : Around} {E : Value → Shared → Prop}
end
end L2
namespace L2
open PySem PySem.Spec PyProof.Rows
section
variable {X : Cx}
end
end L2
namespace My
open PySem L2 LM PyProof.Rows
end My
namespace LM
open PyProof.Rows
end LM
namespace My
open PySem L2 LM PyProof.Rows
end My
namespace My
open PySem L2 LM PyProof.Rows
end My
namespace L2
open PySem PySem.Spec PyProof.Rows
theorem paired_perm {α β : Type} {R : α → β → Prop} {b c : List β} (p : b.Perm c) : ∀ {a : List α}, Paired R a b → ∃ d, a.Perm d ∧ Paired R d c := by
  induction p with
  | nil => intro a h; cases h; exact ⟨[], .refl _, .nil⟩
  | cons x _ ih =>
    intro a h
    cases h with
    | cons r t =>
      obtain ⟨d, h1, h2⟩ := ih t
      exact ⟨_, h1.cons _, .cons r h2⟩
  | swap x y l =>
    intro a h
    cases h with
    | cons r t =>
      cases t with
      | cons r2 t2 => exact ⟨_, List.Perm.swap _ _ _, .cons r2 (.cons r t2)⟩
  | trans _ _ ih1 ih2 =>
    intro a h
    obtain ⟨d, h1, h2⟩ := ih1 h
    obtain ⟨e, h3, h4⟩ := ih2 h2
    exact ⟨e, h1.trans h3, h4⟩
theorem paired_zip {xs : List V} {us : List Value} (r : Vals xs us) : ∀ (kz : List Int), Paired (fun (p : Int × V) (q : Int × Value) => p.1 = q.1 ∧ RelV p.2 q.2) (kz.zip xs) (kz.zip us) := by
  induction r with
  | nil => intro kz; simp; exact .nil
  | cons h _ ih =>
    intro kz
    cases kz with
    | nil => exact .nil
    | cons k kz => exact .cons ⟨rfl, h⟩ (ih kz)
theorem paired_snd {ps : List (Int × V)} {qs : List (Int × Value)} (r : Paired (fun (p : Int × V) (q : Int × Value) => p.1 = q.1 ∧ RelV p.2 q.2) ps qs) : Vals (ps.map (·.2)) (qs.map (·.2)) ∧ ps.map (·.1) = qs.map (·.1) := by
  induction r with
  | nil => exact ⟨.nil, rfl⟩
  | cons h _ ih => exact ⟨.cons h.2 ih.1, by rw [List.map_cons, List.map_cons, h.1, ih.2]⟩
/-- a list told by its keys: what sorting it tells -/
noncomputable def SrtK (kz : List Int) (xs out : List V) : Prop := ∃ ps : List (Int × V), ps.Perm (kz.zip xs) ∧ out = ps.map (·.2) ∧ (ps.map (·.1)).Pairwise (· ≤ ·)
theorem srtK_of {kz : List Int} {xs : List V} {vs out : List Value} (r : Vals xs vs) (h : KskOut false kz vs out) : ∃ ys, Vals ys out ∧ SrtK kz xs ys := by
  obtain ⟨ps, hp, rfl, ho⟩ := h
  obtain ⟨d, h1, h2⟩ := paired_perm hp.symm (paired_zip r kz)
  obtain ⟨h3, h4⟩ := paired_snd h2
  refine ⟨_, h3, d, h1.symm, rfl, ?_⟩
  rw [h4]
  exact List.Pairwise.map _ (fun a b (z : if false = true then b.1 ≤ a.1 else a.1 ≤ b.1) => z) ho
section
variable {prog : Program} {w : World} {A : Around} {E : Value → Shared → Prop} {s : Shared} {D kS : Addr} {vs : List Value} {kz : List Int} {ky : List Value} {c1 c2 : Nat} {P : PySem.Fin → Shared → Prop}
theorem srt_tail {st : SortSt} (gk : s.heap.get? kS = some (seqObj "list" ky.toArray c2)) (gd : s.heap.get? D = some (seqObj "list" #[] c1)) (ne : kS ≠ D) (hk : IntsAre ky kz) (e1 : kz.length = vs.length) (l64 : vs.length < 64)
    (pm : (arrOf st).Perm (ky.toArray.zip vs.toArray)) (so : SortedTo (arrOf st) (arrOf st).size) (nf : failedOf st = none)
    (fin : ∀ out : List Value, KskOut false kz vs out → out.length < 64 → P (.done (.ret .none)) { s with heap := (s.heap.update kS (Obj.mapSeq fun _ => #[])).update D (Obj.mapSeq fun _ => out.toArray) }) :
    wpAny (model prog w) A (ksk_tail D false c1 (.ref kS) st) P E s := by
  have lk : ky.length = vs.length := by rw [hk.length]; exact e1
  have ls : (arrOf st).size = vs.length := by rw [pm.size_eq, Array.size_zip, List.size_toArray, List.size_toArray, lk, Nat.min_self]
  have gd2 : (s.heap.update kS (Obj.mapSeq fun _ => (#[] : Array Value))).get? D = some (seqObj "list" #[] c1) := ((Heap.SameBut.update s.heap kS _).2 D ne.symm).trans gd
  have ko : KskOut false kz vs ((arrOf st).map (·.2)).toList := ksk_out (b := false) (keys := ky.toArray) (by simpa using hk) pm so
  have f2 := fin _ ko (by rw [Array.length_toList, Array.size_map, ls]; exact l64)
  rw [Array.toArray_toList] at f2
  unfold ksk_tail
  try dsimp only
  refine wpAny_bind (listUpdate_at gk rfl ?_ (by rw [List.size_toArray, sizeLine_eq]; omega) (Nat.zero_le _))
  refine wpAny_bind (wpAny_letGo (wpAny_bind (seqEpoch_at gd2 rfl (wpAny_bind (listUpdate_at gd2 rfl ?_ (Nat.zero_le _) ?_)))))
  · rw [nf]
    simp only [bne_self_eq_false, Bool.false_eq_true, if_false]
    exact wpAny_pure f2
  · simp only [Bool.false_eq_true, if_false, Array.size_map, ls, sizeLine_eq]
    omega
theorem srt_end (gk : s.heap.get? kS = some (seqObj "list" ky.toArray c2)) (gd : s.heap.get? D = some (seqObj "list" #[] c1)) (ne : kS ≠ D) (hk : IntsAre ky kz) (e1 : kz.length = vs.length) (l64 : vs.length < 64)
    (fin : ∀ out : List Value, KskOut false kz vs out → out.length < 64 → P (.done (.ret .none)) { s with heap := (s.heap.update kS (Obj.mapSeq fun _ => #[])).update D (Obj.mapSeq fun _ => out.toArray) }) :
    wpAny (model prog w) A (ksk_end D false vs.toArray c1 (.ref kS) ky.toArray) P E s := by
  have lk : ky.length = vs.length := by rw [hk.length]; exact e1
  have hk' : IntsAre ky.toArray.toList kz := by simpa using hk
  have zs : (ky.toArray.zip vs.toArray).size = vs.length := by rw [Array.size_zip, List.size_toArray, List.size_toArray, lk, Nat.min_self]
  unfold ksk_end
  try dsimp only
  rw [if_neg (by decide)]
  by_cases h2 : vs.toArray.size < 2
  · rw [if_pos h2, if_pos h2]
    refine wpAny_bind (wpAny_pure ?_)
    rw [StateT.run_pure]
    refine wpAny_bind (wpAny_pure ?_)
    refine srt_tail gk gd ne hk e1 l64 (Array.Perm.refl _) (fun i j hij hj => ?_) rfl fin
    have hj' : j < (ky.toArray.zip vs.toArray).size := hj
    rw [List.size_toArray] at h2
    obtain rfl : i = j := by omega
    exact Int.le_refl _
  · rw [if_neg h2, if_neg h2]
    rw [List.size_toArray] at h2
    rw [ksk_kind hk' (by rw [List.size_toArray, lk]; omega)]
    refine wpAny_bind (wpAny_pure (wpAny_bind (wpAny_mono (wpS_sortRuns (a₀ := ky.toArray.zip vs.toArray) (Q := fun _ z => (arrOf z).Perm (ky.toArray.zip vs.toArray) ∧ failedOf z = none ∧ SortedTo (arrOf z) (ky.toArray.zip vs.toArray).size)
      (ksk_intKeys hk') ⟨Array.Perm.refl _, rfl, rfl, rfl⟩ (by rw [zs]; omega) (by rw [zs]; exact l64) fun z q1 q2 q3 => ⟨q1, q2, q3⟩) ?_ fun _ _ z => z)))
    rintro ⟨⟨⟩, z⟩ s' ⟨rfl, q1, q2, q3⟩
    exact srt_tail gk gd ne hk e1 l64 q1 (by rw [q1.size_eq]; exact q3) q2 fin
end
end L2
namespace L2
open PySem PySem.Spec PyProof.Rows
section
variable {X : Cx} {k : Nat} {f : Addr} {fd : FuncData} {ps : List Str} {sp : Sp}
/-- f run within a built-in that runs within a built-in -/
theorem run_in2 {pins : List (Addr × Obj)} {σ : St} {H : Hp} {s : Shared} {Q : VK} {us : List Value} {vs : List V} (F : FnOk X.prog X.w X.K X.mg X.base CX0 k f fd ps sp) (hr : Room (k + 2) X.A) (hb : Binds X.K fd ps [])
    (I : Inv X pins σ H s) (r : Vals vs us) (h : sp vs H Q E0) : wpAny (model X.prog X.w) X.A.in1.in1 (call (.ref f) us) (EP X pins σ Q) (fun _ _ => False) s := by
  have hl : (us ++ []).length = ps.length := by rw [List.append_nil, ← r.length]; exact F.len _ _ _ _ h
  have hb' := hb s us I.kIn hl
  rw [List.append_nil] at hb'
  refine wpAny_call (codeAny_mono (F.run X.A.in1.in1 X.stack s H ⟨us, []⟩ us vs Q E0 hr.in1.in1 I.env0.in1.in1 hb' r h) fun z s' hq => ?_)
  cases z with
  | error e => exact False.elim hq
  | ok fl =>
    cases fl with
    | ret u => exact I.after hq
    | next => exact False.elim hq
    | brk => exact False.elim hq
    | cont => exact False.elim hq
theorem Inv.track {pins : List (Addr × Obj)} {σ : St} {H : Hp} {s : Shared} {h' : Heap} {D : Addr} {ys : List V} {its : List Value} {n t' : Nat} (I : Inv X pins σ H s) (fD : FpOk X pins H D) (k : ∀ b o, b ≠ D → s.heap.get? b = some o → h'.get? b = some o)
    (hv : Vals ys its) (hz : ys.length ≤ sizeLine) (g : h'.get? D = some { cls := .type "list", data := .seq its.toArray n }) : Inv X pins σ (upd H D (.lst ys)) { s with heap := h', toks := t' } := by
  obtain ⟨f0, f1, f2, f3, f4, f5⟩ := fD
  have nD : ∀ b u, H b = some u → b ≠ D := fun b u e z => by rw [z, f0] at e; cases e
  refine I.step (g' := s.gens) (d' := s.drawn) (ch := [D]) (fun b hb => ?_) (fun b o _ _ hc e _ => k b o (fun z => hc (by simp [z])) e) (fun b o _ _ hc e _ => ⟨o.slots, k b o (fun z => hc (by simp [z])) e⟩)
    (fun b o hc _ q => by rw [upd_ne (fun z => hc (by simp [z]))]; exact q) (fun b o hc e => ⟨o, k b o (fun z => hc (by simp [z])) e⟩) (fun b xs e => by rw [upd_ne (nD b _ e)]; exact e) (fun b o u e => by rw [upd_ne (nD b _ e)]; exact e)
    (fun b ps e => ⟨#[], by rw [upd_ne (nD b _ e), e]; simp⟩) (fun m hm => ?_) (fun b u e => ?_) I.bare
  · obtain rfl : b = D := by simpa using hb
    exact ⟨f3, f1, f4, f5⟩
  · obtain ⟨o, es, ep, ho, r⟩ := hm
    exact ⟨o, es, ep, k _ o (Ne.symm f1) ho, r⟩
  · by_cases hbD : b = D
    · subst hbD
      rw [upd_same] at e
      cases e
      exact ⟨hz, its, n, hv, g⟩
    · rw [upd_ne hbD] at e
      refine (I.hok b u e).stay (fun c v hc q => k c v ?_ q) (fun c q => ?_) fun c xs q => ?_
      · rcases hc with z | z
        · rw [z]; exact hbD
        · exact nD c _ z
      · rw [upd_ne (nD c _ q)]; exact q
      · rw [upd_ne (nD c _ q)]; exact q
theorem sort_tree {pins : List (Addr × Obj)} {σ : St} {H : Hp} {s : Shared} {P : PySem.Fin → Shared → Prop} {E : Value → Shared → Prop} {D : Addr} {n : Nat} {xs : List V} {vs : List Value} {kz : List Int}
    (F : FnOk X.prog X.w X.K X.mg X.base CX0 k f fd ps sp) (hr : Room (k + 2) X.A) (hb : Binds X.K fd ps []) (I : Inv X pins σ H s) (fD : FpOk X pins H D) (gD : s.heap.get? D = some (seqObj "list" vs.toArray n)) (rv : Vals xs vs) (h64 : xs.length < 64) (hlen : kz.length = xs.length)
    (turn : ∀ (i : Nat) (v : V) (z : Int), xs[i]? = some v → kz[i]? = some z → ∀ H2, Same H H2 → sp [v] H2 (fun y H3 => y = .int z ∧ H3 = H2) E0)
    (done : ∀ ys H2 s2, Inv X pins σ H2 s2 → Same H H2 → H2 D = some (.lst ys) → SrtK kz xs ys → P (.done (.ret .none)) s2) :
    wpAny (model X.prog X.w) X.A.in1.in1 (ksk_tree D (.ref f) false) P E s := by
  have lv := rv.length
  have up1 := Heap.SameBut.update s.heap D (Obj.mapSeq fun _ => (#[] : Array Value))
  obtain ⟨c1, gD1⟩ : ∃ c1, (s.heap.update D (Obj.mapSeq fun _ => (#[] : Array Value))).get? D = some (seqObj "list" #[] c1) := ⟨_, get?_update_seq gD fun _ => #[]⟩
  obtain ⟨f0, f1, f2, f3, f4, f5⟩ := id fD
  have I1 : Inv X pins σ H { s with heap := s.heap.update D (Obj.mapSeq fun _ => (#[] : Array Value)), toks := s.toks } := I.turned (fun b o hb e => (up1.2 b hb).trans e) f0 f1 f3 f4 f5
  unfold ksk_tree
  refine wpAny_bind (listItems_at gD rfl ?_)
  refine wpAny_bind (listUpdate_at gD rfl ?_ (by rw [List.size_toArray, sizeLine_eq]; omega) (Nat.zero_le _))
  refine wpAny_bind (seqEpoch_at gD1 rfl ?_)
  refine wpAny_bind (wpAny_newTuple ?_ (by show vs.length ≤ _; rw [sizeLine_eq]; omega))
  have I2 := I1.kept (t' := s.toks) (h' := (s.heap.update D (Obj.mapSeq fun _ => (#[] : Array Value))).push (seqObj "tuple" vs.toArray 0)) (fun b u q => Heap.get?_push_of_some _ q)
  have gD2 := Heap.get?_push_of_some (seqObj "tuple" vs.toArray 0) gD1
  refine wpAny_bind (wpAny_newList ?_ (Nat.zero_le _))
  have I3 := I2.lnew (its := []) (ys := []) (t' := s.toks) .nil (Nat.zero_le _)
  have gD3 := Heap.get?_push_of_some (seqObj "list" #[] 0) gD2
  have fr2 := I2.fresh
  have nKD : ((s.heap.update D (Obj.mapSeq fun _ => (#[] : Array Value))).push (seqObj "tuple" vs.toArray 0)).objs.size ≠ D := Nat.ne_of_gt (Heap.lt_size gD2)
  refine wpAny_holding ?_
  generalize hkS : ((s.heap.update D (Obj.mapSeq fun _ => (#[] : Array Value))).push (seqObj "tuple" vs.toArray 0)).objs.size = kS at I3 fr2 nKD ⊢
  have I4 := I3.pinned (fp := [D]) (fun b hb => by
    obtain rfl : b = D := by simpa using hb
    exact ⟨by rw [upd_ne (Ne.symm nKD)]; exact f0, f1, f2, f3, f4, f5⟩) (fun b hb => by
    obtain rfl : b = D := by simpa using hb
    exact ⟨_, gD3, fun v z => by cases z⟩)
  have hpins : ((D, seqObj "list" #[] c1) : Addr × Obj) ∈ pinsAt [D] (((s.heap.update D (Obj.mapSeq fun _ => (#[] : Array Value))).push (seqObj "tuple" vs.toArray 0)).push (seqObj "list" #[] 0)) := mem_pinsAt (by simp) gD3
  have sm3 : Same H (upd H kS (.lst [])) := Same.upd fr2
  clear I1 I2 I3 gD1 gD2 up1
  change Inv X (pins ++ pinsAt [D] (((s.heap.update D (Obj.mapSeq fun _ => (#[] : Array Value))).push (seqObj "tuple" vs.toArray 0)).push (seqObj "list" #[] 0))) σ (upd H kS (.lst [])) { s with heap := ((s.heap.update D (Obj.mapSeq fun _ => (#[] : Array Value))).push (seqObj "tuple" vs.toArray 0)).push (seqObj "list" #[] 0) } at I4
  change wpAny _ _ _ _ _ { s with heap := ((s.heap.update D (Obj.mapSeq fun _ => (#[] : Array Value))).push (seqObj "tuple" vs.toArray 0)).push (seqObj "list" #[] 0) }
  generalize hpl : pinsAt [D] (((s.heap.update D (Obj.mapSeq fun _ => (#[] : Array Value))).push (seqObj "tuple" vs.toArray 0)).push (seqObj "list" #[] 0)) = pl at I4 hpins
  generalize ({ s with heap := ((s.heap.update D (Obj.mapSeq fun _ => (#[] : Array Value))).push (seqObj "tuple" vs.toArray 0)).push (seqObj "list" #[] 0) } : Shared) = s4 at I4 ⊢
  unfold ksk_rest
  refine wpAny_bind (wpAny_rule ?_)
  rw [List.forIn_toArray]
  refine wpAny_bind (ksk_fold (fun i s' => ∃ H', Inv X (pins ++ pl) σ H' s' ∧ H' kS = some (.lst ((kz.take i).map V.int)) ∧ Same H H') vs 0 s4 ⟨_, I4, upd_same, sm3⟩ ?step ?fini)
  case step =>
    rintro j x s' hx ⟨H', I', hk', sm'⟩
    simp only [Nat.zero_add] at hk' ⊢
    have hj : j < vs.length := (List.getElem?_eq_some_iff.mp hx).1
    obtain ⟨v, hv⟩ : ∃ v, xs[j]? = some v := ⟨xs[j]'(by omega), by simp [show j < xs.length by omega]⟩
    obtain ⟨z, hzj⟩ : ∃ z, kz[j]? = some z := ⟨kz[j]'(by omega), by simp [show j < kz.length by omega]⟩
    obtain ⟨u, hu, ru⟩ := rv.get hv
    rw [hx] at hu
    cases hu
    refine wpAny_bind (wpAny_attempt (wpAny_mono (run_in2 F hr hb I' (.cons ru .nil) (turn j v z hv hzj H' sm')) (fun y s'' he => ?_) fun _ _ hF => hF.elim))
    obtain ⟨y', H3, I'', ry, e1, e2⟩ := he
    subst e1
    subst e2
    obtain ⟨t, rfl⟩ := ry
    obtain ⟨hz', its, n', rk, lk, gk⟩ := I''.lstM hk'
    rw [List.length_map, List.length_take] at lk
    have I5 := I''.lset (f := fun q => q.push (.int z t)) (its' := its ++ [.int z t]) (ys := (kz.take j).map V.int ++ [.int z]) (t' := s''.toks) hk' gk (by simp) (rk.append (show Vals [V.int z] [Value.int z t] from .cons ⟨t, rfl⟩ .nil)) (by rw [List.length_append, List.length_map, List.length_take, List.length_singleton, sizeLine_eq]; omega)
    refine wpAny_bind (listUpdate_at gk rfl ?_ (by rw [List.size_toArray, sizeLine_eq]; omega) (Nat.le_trans (Nat.le_of_eq (Array.size_push ..)) (by rw [List.size_toArray, sizeLine_eq]; omega)))
    refine wpAny_pure ⟨rfl, _, I5, ?_, fun b o e => ?_⟩
    · rw [upd_same, List.take_add_one, hzj]
      simp
    · have nb : b ≠ kS := fun zz => by rw [zz, fr2] at e; cases e
      rw [upd_ne nb]
      exact sm' b o e
  case fini =>
    rintro s' ⟨H', I', hk', sm'⟩
    rw [Nat.zero_add, List.take_of_length_le (by omega)] at hk'
    obtain ⟨hz', its, n', rk, lk, gk⟩ := I'.lstM hk'
    obtain ⟨pD, pn, _⟩ := I'.pin (D, seqObj "list" #[] c1) (List.mem_append_right _ (List.mem_append_right _ hpins))
    refine wpAny_bind (listItems_at gk rfl ?_)
    refine srt_end gk pD nKD (intsAre_of rk) (by omega) (by omega) fun out ko lo => ?_
    obtain ⟨ys, ry, sk⟩ := srtK_of rv ko
    have I5 := I'.unpinned.lset (f := fun _ => #[]) (its' := []) (ys := []) (t' := s'.toks) hk' gk rfl .nil (Nat.zero_le _)
    have pD5 : (s'.heap.update kS (Obj.mapSeq fun _ => (#[] : Array Value))).get? D = some (seqObj "list" #[] c1) := ((Heap.SameBut.update s'.heap kS _).2 D nKD.symm).trans pD
    obtain ⟨c6, g6⟩ : ∃ c6, ((s'.heap.update kS (Obj.mapSeq fun _ => (#[] : Array Value))).update D (Obj.mapSeq fun _ => out.toArray)).get? D = some (seqObj "list" out.toArray c6) := ⟨_, get?_update_seq pD5 fun _ => out.toArray⟩
    have I6 := I5.track (D := D) (ys := ys) (its := out) (n := c6) (t' := s'.toks) (h' := (s'.heap.update kS (Obj.mapSeq fun _ => (#[] : Array Value))).update D (Obj.mapSeq fun _ => out.toArray))
      ⟨by rw [upd_ne (Ne.symm nKD)]; exact pn, f1, f2, f3, f4, f5⟩ (fun b o hb e => ((Heap.SameBut.update _ D _).2 b hb).trans e) ry (by rw [ry.length, sizeLine_eq]; omega) g6
    refine done ys _ _ I6 (fun b o e => ?_) upd_same sk
    have nb : b ≠ kS := fun zz => by rw [zz, fr2] at e; cases e
    have nb2 : b ≠ D := fun zz => by rw [zz, f0] at e; cases e
    rw [upd_ne nb2, upd_ne nb]
    exact sm' b o e
theorem call_sortK {pins : List (Addr × Obj)} {σ : St} {H : Hp} {s : Shared} {Q : VK} {a : Addr} {xs : List V} {kz : List Int} (F : FnOk X.prog X.w X.K X.mg X.base CX0 k f fd ps sp) (hr : Room (k + 2) X.A) (hb : Binds X.K fd ps [])
    (I : Inv X pins σ H s) (hx : SqL X.K H a xs) (h64 : xs.length < 64) (hlen : kz.length = xs.length)
    (turn : ∀ (i : Nat) (v : V) (z : Int), xs[i]? = some v → kz[i]? = some z → ∀ H2, Same H H2 → sp [v] H2 (fun y H3 => y = .int z ∧ H3 = H2) E0)
    (done : ∀ l ys H2, H l = none → Same H H2 → H2 l = some (.lst ys) → SrtK kz xs ys → Q (.ref l) H2) :
    wpAny (model X.prog X.w) X.A (call (.builtin "sorted") [.ref a] [("key", .ref f)]) (EP X pins σ Q) X.xe s := by
  obtain ⟨vs, rv, pl, hz⟩ := I.list hx
  have lv := rv.length
  refine call_function_entry_kw kind_sorted plain_sorted entry_sorted (ksk_s1 _ _) ?_
  unfold Builtin.«sorted»
  refine wpAny_bind (m := checkCount "sorted" 1 1 _) (wpAny_pure ?_)
  refine wpAny_bind (collect_list pl.isList ?_ (by omega))
  have sz1 : ((s.heap.push (seqObj "list" #[] 0)).update s.heap.objs.size (Obj.mapSeq fun z => z ++ vs.toArray)).objs.size = s.heap.objs.size + 1 := by rw [Heap.size_update, size_push']
  have k1 : ∀ b u, s.heap.get? b = some u → ((s.heap.push (seqObj "list" #[] 0)).update s.heap.objs.size (Obj.mapSeq fun z => z ++ vs.toArray)).get? b = some u := fun b u e => by
    have lt := Heap.lt_size e
    exact ((Heap.SameBut.update (s.heap.push (seqObj "list" #[] 0)) s.heap.objs.size _).2 b (Nat.ne_of_lt lt)).trans (Heap.get?_push_of_some _ e)
  have I1 := I.kept (t' := s.toks) k1
  refine wpAny_bind (wpAny_newList ?_ (by omega))
  have k2 : ∀ b u, ((s.heap.push (seqObj "list" #[] 0)).update s.heap.objs.size (Obj.mapSeq fun z => z ++ vs.toArray)).get? b = some u → (((s.heap.push (seqObj "list" #[] 0)).update s.heap.objs.size (Obj.mapSeq fun z => z ++ vs.toArray)).push (seqObj "list" vs.toArray 0)).get? b = some u := fun b u e => Heap.get?_push_of_some _ e
  have I2 := I1.kept (t' := s.toks) k2
  have gD : (((s.heap.push (seqObj "list" #[] 0)).update s.heap.objs.size (Obj.mapSeq fun z => z ++ vs.toArray)).push (seqObj "list" vs.toArray 0)).get? ((s.heap.push (seqObj "list" #[] 0)).update s.heap.objs.size (Obj.mapSeq fun z => z ++ vs.toArray)).objs.size = some (seqObj "list" vs.toArray 0) := Heap.get?_push_size _ rfl
  have nD : H ((s.heap.push (seqObj "list" #[] 0)).update s.heap.objs.size (Obj.mapSeq fun z => z ++ vs.toArray)).objs.size = none := I1.fresh
  have fD := I1.fpOk (H' := H) (Nat.le_refl _) nD
  change wpAny _ _ _ _ _ { s with heap := ((s.heap.push (seqObj "list" #[] 0)).update s.heap.objs.size (Obj.mapSeq fun z => z ++ vs.toArray)).push (seqObj "list" vs.toArray 0), toks := s.toks }
  refine wpAny_bind (wpAny_holding (wpAny_call_entry_kw slot_list_sort ⟨_, gD, rfl⟩ entry_list_sort ?body (ksk_l1 _ _)))
  case body =>
    show wpAny (model X.prog X.w) X.A.in1.in1 (Builtin.«list.sort» ⟨[.ref _], [(Str.ofString "key", .ref f)]⟩) _ _ _
    rw [ksk_t1]
    refine sort_tree F hr hb I2 fD gD rv h64 hlen turn fun ys H2 s2 I3 sm hD sk => ⟨_, rfl, wpAny_pure ⟨_, rfl, ?_⟩⟩
    exact ⟨.ref _, H2, I3, rfl, done _ ys H2 nD sm hD sk⟩
/-- sorted(e, key=g), g a def of one argument that tells an int and changes nothing -/
noncomputable def tSrtK (K : PySem.W.Frag) (sp : Sp) (t : TA) : TE := fun σ H Q => t σ H fun vs H1 => ∃ a xs kz, vs = [.ref a] ∧ SqL K H1 a xs ∧ xs.length < 64 ∧ kz.length = xs.length ∧
  (∀ (i : Nat) (v : V) (z : Int), xs[i]? = some v → kz[i]? = some z → ∀ H2, Same H1 H2 → sp [v] H2 (fun y H3 => y = .int z ∧ H3 = H2) E0) ∧
  ∀ l ys H2, H1 l = none → Same H1 H2 → H2 l = some (.lst ys) → SrtK kz xs ys → Q (.ref l) H2
theorem pe_srtK {j : Nat} {g : Str} {e : Expr} {t : TA} {p p2 kp pos : Pos} (D : Df X.prog X.w X.K X.mg X.base j g ps sp) (hr : Room k X.A) (hs : Gl X "sorted") (hm : X.mg "sorted" = none) (ha : PA X [e] t) (hg : Gl X g := by rfl) (hj : j + 2 ≤ k := by decide)
    (hdb : (g == ("__debug__" : Str)) = false := by decide) (hst : starEach [e] X.env = [(false, eval e X.env)] := by rfl) :
    PE X (.Call (.Name "sorted" p) [e] [⟨some "key", .Name g p2, kp⟩] pos) (tSrtK X.K sp t) := by
  obtain ⟨f, fd, F, b, hmg, kp'⟩ := D.ex
  intro pins s σ H Q I h
  refine wpAny_Call_Name_kw (ld_blt I hs hm (by decide +kernel : bootBuiltins "sorted" = some (.builtin "sorted")) ?_ (by decide) (by decide))
  refine PyProof.Rows.callWith_kw (thn (ha pos pins s σ H _ I h) fun us s1 ⟨vs, H1, I1, r1, a, xs, kz, ea, hx, h64, hlen, turn, done⟩ => ?_) (by rw [hst]; rfl) (by rw [hst]; rfl) (by rfl) (by rfl)
  subst ea
  obtain ⟨u, rfl, ru⟩ := vals1 r1
  cases ru
  refine PyProof.Rows.kws_cons (ld_glob I1 hg hmg (PyProof.Rows.kws_nil ?_) hdb)
  exact call_sortK F (hr.mono hj) b I1 hx h64 hlen turn done
end
end L2
namespace L2
open PySem PySem.Spec PyProof.Rows
end L2
namespace LM
open PyProof.Rows
end LM
namespace My
open PySem L2 LM PyProof.Rows
end My
namespace L2
open PySem PySem.Spec PyProof.Rows
theorem ObjOk.there {P : Program} {w : World} {H : Hp} {h : Heap} {a : Addr} : ∀ {o : HO}, ObjOk P w H h a o → ∃ ob, h.get? a = some ob
  | .lst _, ⟨_, _, _, _, e⟩ => ⟨_, e⟩
  | .tup _, ⟨_, _, _, o, e, _⟩ => ⟨o, e⟩
  | .dK _, ⟨_, _, _, _, o, _, _, e, _⟩ => ⟨o, e⟩
  | .dT _, ⟨_, _, _, _, o, _, _, e, _⟩ => ⟨o, e⟩
  | .set _ _, x => let ⟨o, e, _⟩ := (show h.SetOf (intKind P w) a _ _ from x).objOf; ⟨o, e⟩
  | .ins _ _ _, ⟨_, _, _, e, _⟩ => ⟨_, e⟩
  | .own _, ⟨o, e⟩ => ⟨o, e⟩
  | .xd _, ⟨_, n, _⟩ => by obtain ⟨o, e, _⟩ := lookIn_ns n; exact ⟨o, e⟩
  | .rng _ _, ⟨_, _, _, e⟩ => ⟨_, e⟩
  | .frz _ _, ⟨e, _⟩ => ⟨_, e⟩
  | .tbl _, e => ⟨_, e⟩
  | .met _ _, e => ⟨_, e⟩
  | .ext _, ⟨_, ⟨o, e⟩, _⟩ => ⟨o, e⟩
section
variable {X : Cx} {pins : List (Addr × Obj)} {σ : St} {H : Hp} {s : Shared}
end
end L2
namespace L2
open PySem PySem.Spec PyProof.Rows
section
variable {X : Cx} {pins : List (Addr × Obj)} {σ : St} {H : Hp} {s : Shared}
end
section
variable {P : Program} {w : World} {K : PySem.W.Frag} {mg : Str → Option Value} {base : Heap} {N : List Str} {qual : Str} {scope : Scope} {f : Addr} {cd : Value} {A : Around} {outer : List Env} {s : Shared} {H : Hp} {E : XK}
  {pins : List (Addr × Obj)} {σ : St}
end
end L2
namespace L2
open PySem PySem.Spec PyProof.Rows
section
variable {X : Cx} {pins : List (Addr × Obj)} {σ : St} {H : Hp} {s : Shared}
end
end L2
namespace L2
open PySem PySem.Spec PyProof.Rows
section
variable {X : Cx} {pins : List (Addr × Obj)} {σ : St} {H : Hp} {s : Shared} {x : Addr}
end
end L2
namespace L2
open PySem PySem.Spec PyProof.Rows
section
variable {X : Cx} {pins : List (Addr × Obj)} {σ : St}
end
end L2
namespace L2
open PySem PySem.Spec PyProof.Rows
section
variable {prog : Program} {w : World} {A : Around} {E : Value → Shared → Prop} {h : Heap} {g : Array GenState} {d : Drawn} {t : Nat} {os : OsState} {K : PySem.W.Frag} {a C : Addr} {o : Obj}
end
section
variable {X : Cx}
end
end L2
namespace L2
open PySem PySem.Spec PyProof.Rows
section
variable {X : Cx} {pins : List (Addr × Obj)} {σ : St} {H : Hp} {s : Shared}
end
end L2
namespace L2
open PySem PySem.Spec PyProof.Rows
section
variable {X : Cx} {pins : List (Addr × Obj)} {σ : St}
end
end L2
namespace L2
open PySem PySem.Spec PyProof.Rows
noncomputable abbrev Bd (n : Nat) (i : Int) : Prop := Builtin.Int.intBits i ≤ n
theorem Bd.of {n : Nat} {i : Int} (h : i.natAbs < 2 ^ n) : Bd n i := intBits_le_iff.mpr h
theorem Bd.mono {m n : Nat} {i : Int} (h : Bd m i) (z : m ≤ n) : Bd n i := Nat.le_trans h z
section
variable {X : Cx}
theorem op_mulB : OpR X (binaryOp .Mult) (rI (fun i j => Bd 20000 i ∧ Bd 20000 j) fun i j => .int (i * j)) := opI fun _ _ _ _ _ _ _ hc q => mul_int q (IntMulOk.of_le hc.1 hc.2 (by decide))
end
/-! ### greatest divisors -/
section
variable {t b p q : Int}
end
/-! ### a number of the script, or one made of it -/
end L2
namespace L2
open PySem PySem.Spec PyProof.Rows
section
variable {X : Cx}
end
end L2
namespace L2
open PySem PySem.Spec PyProof.Rows
end L2
namespace L2
open PySem PySem.Spec PyProof.Rows
section
variable {X : Cx} {K : PySem.W.Frag}
end
end L2
namespace L2
open PySem PySem.Spec PyProof.Rows
section
variable {t b p q p' q' : Int}
end
end L2
namespace L2
open PySem PySem.Spec PyProof.Rows
section
variable {X : Cx}
/-- x in a list or tuple, all of them data -/
noncomputable def rInD (K : PySem.W.Frag) (neg : Bool) : R2 := fun x y H Q => ∃ d ds, IsD K H d x ∧ (IsD K H (.list ds) y ∨ IsD K H (.tuple ds) y) ∧ d.canLay0 = true ∧ PyData.canLayAll0 ds = true ∧ d.depth ≤ 50 ∧ Q (.bl (if neg then !(ds.any fun e => PyData.eqv e d) else ds.any fun e => PyData.eqv e d)) H
theorem op_notInD (hu : X.A.units + 64 < cLine) : OpR X (compareOp .NotIn) (rInD X.K true) := by
  intro pins s σ H x y v u Q I rx ry h
  obtain ⟨d, ds, h1, h2, c1, c2, hd, q⟩ := h
  obtain ⟨as, ra⟩ := IsD.reads I h1 rx
  have hm := Nat.min_le_right (PyData.depthAll ds) d.depth
  rcases h2 with h2 | h2
  · obtain ⟨bs, rb⟩ := IsD.reads I h2 ry
    exact SeqAt.notIn_list_reads rb ra c2 c1 (by omega) (show EP X pins σ Q _ s from ⟨.bl _, H, I, rfl, q⟩)
  · obtain ⟨bs, rb⟩ := IsD.reads I h2 ry
    exact SeqAt.notIn_tuple_reads rb ra c2 c1 (by omega) (show EP X pins σ Q _ s from ⟨.bl _, H, I, rfl, q⟩)
/-- l.index(x): the first item that is x -/
noncomputable def rIndexD (K : PySem.W.Frag) : V → List V → Hp → VK → Prop := fun x vs H Q => ∃ l xs v d ds j, x = .ref l ∧ vs = [v] ∧ H l = some (.lst xs) ∧ IsDs K H ds xs ∧ IsD K H d v ∧ d.canLay0 = true ∧ PyData.canLayAll0 ds = true ∧ d.depth ≤ 50 ∧
  (∃ e, ds[j]? = some e ∧ PyData.eqv e d = true) ∧ (∀ m e, m < j → ds[m]? = some e → PyData.eqv e d = false) ∧ Q (.int (j : Nat)) H
theorem mt_index (hu : X.A.units + 64 < cLine) : MtM X "list.index" (rIndexD X.K) := by
  intro pins s σ H x vs v us Q I rx rv h
  obtain ⟨l, xs, v', d, ds, j, rfl, rfl, hH, hds, hd, c1, c2, hdp, ⟨e0, he0, ht⟩, hno, q⟩ := h
  cases rx
  obtain ⟨u, rfl, ru⟩ := rv.one
  obtain ⟨z, its, n, r, hl, e⟩ := I.lstM hH
  obtain ⟨as, ra⟩ := IsDs.reads I hds r
  obtain ⟨bs, rb⟩ := IsD.reads I hd ru
  have hm := Nat.min_le_right (PyData.depthAll ds) d.depth
  have mp := SeqAt.readsAll_map ds its as c2 ra
  have jl : j < ds.length := (List.getElem?_eq_some_iff.mp he0).1
  have jl' : j < its.length := by rw [← mp, List.length_map] at jl; exact jl
  have at' : ∀ m (hm : m < its.length), ds[m]? = some (SeqAt.readOf s.heap its[m]) := fun m hm => by
    rw [← mp, List.getElem?_map, List.getElem?_eq_getElem hm]
    rfl
  have sz : (2 : Int) ^ 63 - 1 = 9223372036854775807 := by decide
  have hz : sizeLine ≤ 9223372036854775807 := by decide
  refine call_meets F.slot_list_index ⟨_, e, rfl⟩ F.entry_list_index (F.args_list_index_2 _ _)
    (SeqAt.list_indexAt l its.toArray n none #[] u (fun y => PyData.eqv (SeqAt.readOf s.heap y) d) j (by simpa using jl') (by rw [sz]; omega) ?_ ?_) ⟨e, ?_, ?_⟩
  · have := at' j jl'
    rw [he0] at this
    show PyData.eqv (SeqAt.readOf s.heap its.toArray[j]) d = true
    rw [show its.toArray[j] = its[j] from by simp, ← Option.some.inj this]
    exact ht
  · intro m hm' hmj
    have hm2 : m < its.length := by simpa using hm'
    show PyData.eqv (SeqAt.readOf s.heap its.toArray[m]) d = false
    rw [show its.toArray[m] = its[m] from by simp]
    exact hno m _ hmj (at' m hm2)
  · exact SeqAt.items_eqAt (vs := its.toArray) (by simpa using ra) rb c2 c1 (by omega)
  · exact ⟨.int (j : Nat), H, I.tok _, ⟨_, rfl⟩, q⟩
end
end L2
namespace L2
open PySem PySem.Spec PyProof.Rows
section
variable {X : Cx} {pins : List (Addr × Obj)} {σ : St} {H : Hp} {s : Shared}
/-- a dict is taken as it stands, to be walked -/
theorem Inv.freeze {a : Addr} {kvs : List (Key × V)} {o : Obj} (I : Inv X pins σ H s) (ha : H a = some (.dK kvs)) (e : s.heap.get? a = some o) : Inv X pins σ (upd H a (.frz o (.dK kvs))) s := by
  have ne : ∀ {b : Addr} {u : HO}, H b = some u → u ≠ .dK kvs → b ≠ a := fun {b u} q d z => by
    rw [z, ha] at q
    exact d (Option.some.inj q).symm
  have nn : ∀ {b : Addr}, H b = none → b ≠ a := fun {b} q z => by rw [z, ha] at q; cases q
  refine ⟨I.ok, I.os, I.bare, ⟨I.base.keep, I.base.slot, fun b o' e1 n hx => ?_, I.base.there, fun b xs e1 => ?_, fun b o' u e1 => ?_, fun b ps e1 => ?_⟩, I.loc, I.cell, ?_, fun y c e1 => ?_, fun p hp => ?_, fun b u e1 => ?_, I.len⟩
  · have q := I.base.free b o' e1 n hx
    rw [upd_ne (nn q)]; exact q
  · have q := I.base.tups b xs e1
    rw [upd_ne (ne q (fun z => nomatch z))]; exact q
  · have q := I.base.frzs b o' u e1
    rw [upd_ne (ne q (fun z => nomatch z))]; exact q
  · obtain ⟨more, q⟩ := I.base.tbls b ps e1
    exact ⟨more, by rw [upd_ne (ne q (fun z => nomatch z))]; exact q⟩
  · rw [upd_ne (nn I.free)]; exact I.free
  · rw [upd_ne (nn (I.freeC y c e1))]; exact I.freeC y c e1
  · obtain ⟨a1, a2, a3⟩ := I.pin p hp
    exact ⟨a1, by rw [upd_ne (nn a2)]; exact a2, a3⟩
  · have st : ∀ {b : Addr} {u : HO}, ObjOk X.prog X.w H s.heap b u → ObjOk X.prog X.w (upd H a (.frz o (.dK kvs))) s.heap b u := fun {b u} q =>
      q.stay (fun _ _ _ z => z) (fun c z => by rw [upd_ne (ne z (fun y => nomatch y))]; exact z) fun c xs z => by rw [upd_ne (ne z (fun y => nomatch y))]; exact z
    by_cases hb : b = a
    · subst hb
      rw [upd_same] at e1
      cases e1
      exact ⟨e, st (I.hok b _ ha)⟩
    · rw [upd_ne hb] at e1
      exact st (I.hok b u e1)
end
/-- the keys of the dict at a, frozen as o -/
noncomputable def Itd (a : Addr) (o : Obj) (kvs : List (Key × V)) : It :=
  ⟨fun i H => H a = some (.frz o (.dK kvs)) ∧ i < kvs.length, fun i H x H' => H' = H ∧ ∃ k v, kvs[i]? = some (k, v) ∧ x = kV k, fun i H => H a = some (.frz o (.dK kvs)) ∧ kvs.length ≤ i⟩
theorem KV.len {kvs : List (Key × V)} {vs : List (Key × Value)} (r : KV kvs vs) : kvs.length = vs.length := Paired.length r
theorem KV.at : ∀ {kvs : List (Key × V)} {vs : List (Key × Value)}, KV kvs vs → ∀ {i : Nat} {k : Key} {u : Value}, vs[i]? = some (k, u) → ∃ v, kvs[i]? = some (k, v)
  | _, _, .nil, _, _, _, e => by simp at e
  | _ :: _, _ :: _, .cons r t, 0, k, u, e => by
    simp at e
    subst e
    obtain ⟨rk, rv⟩ := r
    exact ⟨_, by simp; exact Prod.ext rk rfl⟩
  | _ :: _, _ :: _, .cons r t, i + 1, k, u, e => by
    obtain ⟨v, q⟩ := KV.at t (i := i) (k := k) (u := u) (by simpa using e)
    exact ⟨v, by simpa using q⟩
theorem rel_key {P : Program} {w : World} {k : Key} {v : Value} (h : (mixKind P w).is k v = true) : RelV (kV k) v := by
  rcases keyIs_shape (show keyIs k v = true from h) with ⟨i, t, rfl, rfl⟩ | ⟨x, t, rfl, rfl⟩
  · exact ⟨t, rfl⟩
  · exact ⟨t, rfl⟩
/-- the frozen dict, with its epoch -/
theorem Inv.dictAt {X : Cx} {pins : List (Addr × Obj)} {σ : St} {H : Hp} {s : Shared} {a : Addr} {o : Obj} {kvs : List (Key × V)} {es : Array DictEntry} {ep : Nat} (I : Inv X pins σ H s) (ha : H a = some (.frz o (.dK kvs))) (hd : o.data = .dict es ep) :
    ∃ vs, KV kvs vs ∧ s.heap.DictAt (mixKind X.prog X.w) a vs ep := by
  obtain ⟨e, _, _, vs, r, o', es', ep', e', x, d', rest⟩ := I.hok a _ ha
  rw [e] at e'
  cases e'
  rw [hd] at d'
  cases d'
  exact ⟨vs, r, o, es, e, x, hd, rest⟩
theorem turn_dict {P : Program} {w : World} {K : PySem.W.Frag} {tg : Expr} (a it : Addr) (o : Obj) (kvs : List (Key × V)) {es : Array DictEntry} {ep : Nat} (hd : o.data = .dict es ep) : Turn P w K tg (Itd a o kvs) [it] it (fun i h => h.IsKeyIter it a i kvs.length ep) where
  mem := by simp
  obj := fun i h st b hb => by
    have e : b = it := by simpa using hb
    subst e
    obtain ⟨o, e, c, d⟩ := st
    exact ⟨o, e, fun v z => by rw [d] at z; cases z⟩
  keep := fun i h h' st k => st.at fun o e => k it (by simp) o e
  item := by
    intro X hP hw hK hc i pins s σ H E I hf st hg
    subst hP hw hK
    obtain ⟨ha, hi⟩ := hg
    obtain ⟨vs, rv, D⟩ := I.dictAt ha hd
    have hl := rv.len
    obtain ⟨⟨k, u⟩, hu⟩ : ∃ p, vs[i]? = some p := ⟨vs[i]'(by omega), by simp⟩
    obtain ⟨v, hv⟩ := KV.at rv hu
    obtain ⟨f0, f1, f2, f3, f4, f5⟩ := hf it (by simp)
    refine wpAny_pyNext_dict_item (hl ▸ st) D hu fun key h' hkey st' sb => ?_
    have I1 : Inv X pins σ H { s with heap := h' } := I.turned (t' := s.toks) (fun b o hb e => (sb.2 b hb).trans e) f0 f1 f3 f4 f5
    obtain ⟨oi, e, c, d⟩ := id st'
    exact ⟨key, rfl, go_of (s := { s with heap := h' }) e c d (by decide) ⟨kV k, H, I1, rel_key hkey, ⟨rfl, k, v, hv, rfl⟩, hl ▸ st', fun b hb => (hf b hb).1⟩⟩
  done := by
    intro X hP hw hK hc i pins s σ H E I hf st hg
    subst hP hw hK
    obtain ⟨ha, hi⟩ := hg
    obtain ⟨vs, rv, D⟩ := I.dictAt ha hd
    have hl := rv.len
    obtain ⟨f0, f1, f2, f3, f4, f5⟩ := hf it (by simp)
    exact wpAny_pyNext_dict_end (I.ok.hd hc) (hl ▸ st) D (by simp; omega) fun h' eb => ⟨rfl, I.turned (t' := s.toks) (fun b o hb e => eb b o hb e) f0 f1 f3 f4 f5⟩
  self := fun _ _ _ _ _ st h => wpAny_pyIter_keyiter st h
section
variable {X : Cx} {tg : Expr}
/-- for k in d -/
noncomputable def iDict (tl : TE) : TI := fun σ H R => tl σ H fun x H1 => ∃ a kvs, x = .ref a ∧ ((H1 a = some (.dK kvs) ∧ ∀ o, R (Itd a o kvs) (upd H1 a (.frz o (.dK kvs)))) ∨ ∃ o, H1 a = some (.frz o (.dK kvs)) ∧ R (Itd a o kvs) H1)
theorem dict_it {pins : List (Addr × Obj)} {σ : St} {H : Hp} {s : Shared} {R : It → Hp → Prop} {a : Addr} {o : Obj} {kvs : List (Key × V)} (I : Inv X pins σ H s) (ha : H a = some (.frz o (.dK kvs))) (q : R (Itd a o kvs) H) :
    wpAny (model X.prog X.w) X.A (pyIter (.ref a)) (PIE X pins σ tg R) X.xe s := by
  obtain ⟨e, _, hs, vs, r, o', es, ep, e', x, d, rest⟩ := I.hok a _ ha
  rw [e] at e'
  cases e'
  have hl := r.len
  refine wpAny_pyIter_dict (knd := mixKind X.prog X.w) hs ⟨o, es, e, x, d, rest⟩ ?_
  refine ⟨s.heap.objs.size, [s.heap.objs.size], _, _, H, rfl, I.kept (t' := s.toks) fun b o e => Heap.get?_push_of_some _ e, turn_dict a _ o kvs d, ⟨_, Heap.get?_push_size _ rfl, rfl, by rw [hl]; rfl⟩, fun b hb => ?_, q⟩
  have e : b = s.heap.objs.size := by simpa using hb
  subst e
  exact I.fpOk (Nat.le_refl _) (I.hok.fresh (Nat.le_refl _))
theorem pi_dict {l : Expr} {tl : TE} (hl : PE X l tl) : PI X tg l (iDict tl) := by
  intro pins s σ H R I h
  refine thn (hl pins s σ H _ I h) fun v s1 ⟨x, H1, I1, r1, q1⟩ => ?_
  obtain ⟨a, kvs, rfl, h | ⟨o, ha, q⟩⟩ := q1
  · obtain ⟨ha, q⟩ := h
    cases r1
    obtain ⟨ob, e⟩ := (I1.hok a _ ha).there
    exact dict_it (I1.freeze ha e) upd_same (q ob)
  · cases r1
    exact dict_it I1 ha q
theorem for_dict {a : Addr} {o : Obj} {kvs : List (Key × V)} {g : TG} {tb : TS} {D : Ends} {σ : St} {H : Hp} (Pv : Nat → St → Hp → Prop) (h0 : Pv 0 σ H) (hl : ∀ i σ H, i ≤ kvs.length → Pv i σ H → H a = some (.frz o (.dK kvs)))
    (hs : ∀ i k v σ H, kvs[i]? = some (k, v) → Pv i σ H → g (kV k) σ H fun σ2 H2 => tb { D with nx := Pv (i + 1), ct := Pv (i + 1), bk := D.nx } σ2 H2) (hd : ∀ σ H, Pv kvs.length σ H → D.nx σ H) :
    ∃ W : Nat → Nat → St → Hp → Prop, (∃ m, W 0 m σ H) ∧ ∀ i m σ H, W i m σ H →
      ((Itd a o kvs).stop i H ∧ D.nx σ H) ∨ ((Itd a o kvs).go i H ∧ ∃ N : St → Hp → Prop, (∀ σ' H', N σ' H' → ∃ m', m' < m ∧ W (i + 1) m' σ' H') ∧ ∀ x H', (Itd a o kvs).yld i H x H' → g x σ H' fun σ2 H2 => tb { D with nx := N, ct := N, bk := D.nx } σ2 H2) := by
  refine ⟨fun i m σ H => m = kvs.length - i ∧ i ≤ kvs.length ∧ Pv i σ H, ⟨kvs.length, by simp, Nat.zero_le _, h0⟩, ?_⟩
  rintro i m σ H ⟨rfl, hi, p⟩
  have q := hl i σ H hi p
  by_cases hlt : i < kvs.length
  · refine .inr ⟨⟨q, hlt⟩, Pv (i + 1), fun σ' H' p' => ⟨kvs.length - (i + 1), by omega, rfl, hlt, p'⟩, fun x H' y => ?_⟩
    obtain ⟨e, k, v, hk, rfl⟩ := y
    subst e
    exact hs i k v σ _ hk p
  · have e : i = kvs.length := by omega
    subst e
    exact .inl ⟨⟨q, Nat.le_refl _⟩, hd σ H p⟩
end
end L2
namespace L2
open PySem PySem.Spec PyProof.Rows
theorem vals_intsA : ∀ {vs : List Value} {ns : List Int}, IntsAre vs ns → Vals (ns.map V.int) vs
  | _, _, .nil => .nil
  | _, _, .cons n t h => .cons ⟨t, rfl⟩ (vals_intsA h)
section
variable {X : Cx}
theorem key_vals {P : Program} {w : World} {vs : List (Key × Value)} : ∀ {kvs : List (Key × V)} {acc : List Value}, KV kvs vs → acc.length = kvs.length → (∀ (j : Nat) (v : Value), acc[j]? = some v → ∃ (k : Key) (x : Value), vs[j]? = some (k, x) ∧ (mixKind P w).is k v = true) → Vals (kvs.map fun p => kV p.1) acc := by
  intro kvs acc r hl hs
  have : ∀ (n : Nat) (kvs : List (Key × V)) (acc : List Value), kvs.length = n → acc.length = n → (∀ (j : Nat) (v : Value), acc[j]? = some v → ∃ (k : Key) (x : V), kvs[j]? = some (k, x) ∧ (mixKind P w).is k v = true) → Vals (kvs.map fun p => kV p.1) acc := by
    intro n
    induction n with
    | zero =>
      intro kvs acc h1 h2 _
      rw [List.length_eq_zero_iff] at h1 h2
      subst h1 h2
      exact .nil
    | succ n ih =>
      intro kvs acc h1 h2 hs
      match kvs, acc, h1, h2, hs with
      | (k0, x0) :: kvs, v0 :: acc, h1, h2, hs =>
        obtain ⟨k, x, e, z⟩ := hs 0 v0 rfl
        simp at e
        obtain ⟨rfl, rfl⟩ := e
        exact .cons (rel_key z) (ih kvs acc (by simpa using h1) (by simpa using h2) fun j v e => by simpa using hs (j + 1) v (by simpa using e))
  refine this kvs.length kvs acc rfl hl fun j v e => ?_
  obtain ⟨k, x, h1, h2⟩ := hs j v e
  obtain ⟨y, hy⟩ := KV.at r h1
  exact ⟨k, y, hy, h2⟩
/-- sorted(d), the keys of a dict, ints all -/
theorem call_srtDI (hc : X.calm = true) : CallR X (.builtin "sorted") (fun xs H Q => ∃ (p : Addr) (kvs : List (Key × V)) (ns : List Int), xs = [.ref p] ∧ Rd H p (.dK kvs) ∧ (kvs.map fun q => kV q.1) = ns.map V.int ∧ ns.length < 64 ∧ ∀ (l : Addr) (ns' : List Int), H l = none → ns'.Perm ns → ns'.Pairwise (· ≤ ·) → Q (.ref l) (upd H l (.lst (ns'.map V.int)))) := by
  intro pins s σ H xs us Q I r h
  obtain ⟨p, kvs, ns, rfl, hx, hk, h64, q⟩ := h
  obtain ⟨u, rfl, ru⟩ := vals1 r
  cases ru
  have ho : ObjOk X.prog X.w H s.heap p (.dK kvs) := by
    rcases hx with hx | ⟨o, hx⟩
    · exact I.hok p _ hx
    · exact (I.hok p _ hx).2
  obtain ⟨hz, hs, vs, rv, hD⟩ := ho
  obtain ⟨ep, hat⟩ := hD.dictAt
  have hl := rv.len
  have hkl := congrArg List.length hk
  rw [List.length_map, List.length_map] at hkl
  refine Calls.call_function_entry kind_sorted plain_sorted entry_sorted (args_sorted1 _) ?_
  unfold Builtin.«sorted»
  refine wpAny_bind (m := checkCount "sorted" 1 1 _) (wpAny_pure ?_)
  refine wpAny_bind (PySem.W.kdu_collect (PySem.W.kdl_dict (knd := mixKind X.prog X.w) (kvs := vs) (ep := ep) hs) (I.ok.hd hc) hat (by omega) fun h' tk acc hkeep hacc => ?_)
  have al : acc.toList.length = kvs.length := by rw [Array.length_toList, hacc.1, hl]
  have va := key_vals rv al fun j v e => hacc.2 j v (by rw [← Array.getElem?_toList]; exact e)
  rw [hk] at va
  have I1 := I.kept (t' := tk) hkeep
  refine wpAny_bind (wpAny_newList ?_ (by omega))
  have gD : (h'.push (seqObj "list" acc.toList.toArray 0)).get? h'.objs.size = some (seqObj "list" acc.toList.toArray 0) := Heap.get?_push_size _ rfl
  have fr : H h'.objs.size = none := I1.hok.fresh (Nat.le_refl _)
  refine wpAny_bind (wpAny_holding (wpAny_call_entry slot_list_sort ⟨_, gD, rfl⟩ entry_list_sort (list_sort_tree gD (intsAre_of va) (by omega) fun out ns' hi pm so => ⟨_, rfl, ?_⟩) (args_list_sort _)))
  obtain ⟨e, he⟩ := sortedHeap_at (out := out) gD
  have pl' := pm.length_eq
  refine wpAny_pure ⟨_, rfl, .ref _, _, I1.track (t' := tk) (n := e) (its := out.toList) (I1.fpOk (Nat.le_refl _) fr) (fun b o hb z => ?_) (vals_intsA hi) (by rw [List.length_map, sizeLine_eq]; omega) he, rfl, q _ ns' fr pm so⟩
  have lt := Heap.lt_size z
  rw [sortedHeap_old hb (by rw [size_push']; exact Nat.lt_succ_of_lt lt)]
  exact Heap.get?_push_of_some _ z
end
end L2
namespace L2
open PySem PySem.Spec PyProof.Rows
section
variable {X : Cx}
/-- max(l), l a list of ints, not empty -/
theorem call_maxL (hc : X.calm = true) : CallR X (.builtin "max") (fun xs H Q => ∃ (p : Addr) (ns : List Int), xs = [.ref p] ∧ SqL X.K H p (ns.map V.int) ∧ 0 < ns.length ∧ ∀ m, m ∈ ns → (∀ a, a ∈ ns → a ≤ m) → Q (.int m) H) := by
  intro pins s σ H xs us Q I r h
  obtain ⟨p, ns, rfl, hx, hne, q⟩ := h
  obtain ⟨u, rfl, ru⟩ := vals1 r
  cases ru
  obtain ⟨vs, rv, pl, hz⟩ := I.list hx
  have hi := intsAre_of rv
  obtain ⟨ys, e⟩ := hi.allInts.items
  have hns : ns = ys.toList.map (·.1) := by rw [← hi.numsOf, ← nums_intItems, ← e]
  have hsz : 0 < ys.size := by
    have h3 := hne
    rw [hns, List.length_map, Array.length_toList] at h3
    exact h3
  have hl := pl.isList
  rw [e] at hl
  refine max_intList (I.ok.hd hc) hl hsz fun v h' tk hv hk => ?_
  obtain ⟨t, rfl⟩ := intItems_at hv
  obtain ⟨h1, h2⟩ := argBest_gt (numAt ys) (ys.size - 1)
  refine ⟨.int _, H, I.kept hk, ⟨t, rfl⟩, q _ ?_ fun a ha => ?_⟩
  · rw [hns, numAt_eq]; exact getD_mem (by rw [List.length_map, Array.length_toList]; omega)
  · rw [hns] at ha
    obtain ⟨j, hj, rfl⟩ := mem_getD ha
    rw [List.length_map, Array.length_toList] at hj
    rw [← numAt_eq]; exact h2 j (by omega)
end
end L2
namespace L2
open PySem PySem.Spec PyProof.Rows
section
variable {X : Cx} {K : PySem.W.Frag}
end
end L2
namespace L2
open PySem PySem.Spec PyProof.Rows
/-- small letters all -/
noncomputable def AllL (x : Str) : Prop := ∀ c ∈ x.cps.toList, 97 ≤ c ∧ c ≤ 122
noncomputable def IsNm (x : Str) : Prop := AllL x ∧ 1 ≤ x.length ∧ x.length ≤ 8
theorem AllL.app {x y : Str} (h : AllL x) (h' : AllL y) : AllL (x ++ y) := by
  intro c hc
  have e : (x ++ y).cps.toList = x.cps.toList ++ y.cps.toList := by
    show (x.cps ++ y.cps).toList = _
    simp
  rw [e] at hc
  rcases List.mem_append.mp hc with z | z
  · exact h c z
  · exact h' c z
theorem app_len (x y : Str) : (x ++ y).length = x.length + y.length := by
  show (x.cps ++ y.cps).size = x.cps.size + y.cps.size
  simp
theorem AllL.one {c : Nat} (h : 97 ≤ c ∧ c ≤ 122) : AllL ⟨#[c]⟩ := by
  intro d hd
  simp at hd
  subst hd
  exact h
/-- a letter of the alphabet, by its place -/
theorem letter_at {i : Int} (h0 : 0 ≤ i) (h1 : i < 26) : ∃ c : Nat, atI ("abcdefghijklmnopqrstuvwxyz" : Str).cps.toList i = some c ∧ 97 ≤ c ∧ c ≤ 122 := by
  obtain ⟨n, rfl⟩ : ∃ n : Nat, i = n := ⟨i.toNat, by omega⟩
  have hn : n < 26 := by omega
  have hl : ("abcdefghijklmnopqrstuvwxyz" : Str).cps.toList = (List.range 26).map (· + 97) := by decide +kernel
  rw [hl]
  exact ⟨n + 97, atI_nat (by simp [hn]), by omega, by omega⟩
end L2
namespace L2
open PySem PySem.Spec PyProof.Rows
section
variable {X : Cx}
end
end L2
namespace L2
open PySem PySem.Spec PyProof.Rows
section
variable {P : Program} {w : World} {K : PySem.W.Frag} {mg : Str → Option Value} {base : Heap}
end
section
variable {X : Cx}
end
end L2
namespace L2
open PySem PySem.Spec PyProof.Rows
section
variable {X : Cx}
end
end L2
namespace L2
open PySem PySem.Spec PyProof.Rows
/-- tuples stay -/
noncomputable def TK (H H' : Hp) : Prop := (∀ a xs, H a = some (.tup xs) → H' a = some (.tup xs)) ∧ ∀ a o xs, H a = some (.frz o (.tup xs)) → H' a = some (.frz o (.tup xs))
theorem Same.tk {H H' : Hp} (s : Same H H') : TK H H' := ⟨fun _ _ e => s _ _ e, fun _ _ _ e => s _ _ e⟩
theorem TK.trans {H H1 H2 : Hp} (a : TK H H1) (b : TK H1 H2) : TK H H2 := ⟨fun x y e => b.1 x y (a.1 x y e), fun x o y e => b.2 x o y (a.2 x o y e)⟩
theorem TK.lst {H : Hp} {D : Addr} {xs : List V} {o : HO} (hD : H D = some (.lst xs)) : TK H (upd H D o) :=
  ⟨fun _ _ e => by rw [upd_ne (ne_of e hD (fun z => nomatch z))]; exact e, fun _ _ _ e => by rw [upd_ne (ne_of e hD (fun z => nomatch z))]; exact e⟩
theorem TK.frz {H : Hp} {D : Addr} {xs : List (Key × V)} {o' : Obj} {o : HO} (hD : H D = some (.frz o' (.dK xs))) : TK H (upd H D o) :=
  ⟨fun _ _ e => by rw [upd_ne (ne_of e hD (fun z => nomatch z))]; exact e, fun _ _ _ e => by rw [upd_ne (ne_of e hD (fun z => by injection z with _ z2; exact nomatch z2))]; exact e⟩
theorem TK.sq {K : PySem.W.Frag} {H H' : Hp} {a : Addr} {xs : List V} (t : TK H H') (h : SqT K H a xs) : SqT K H' a xs := by
  rcases h with (h | ⟨o, h⟩) | h
  · exact .inl (.inl (t.1 _ _ h))
  · exact .inl (.inr ⟨o, t.2 _ _ _ h⟩)
  · exact .inr h
theorem Paired.imp {α β : Type} {R R' : α → β → Prop} (h : ∀ x y, R x y → R' x y) : ∀ {xs : List α} {ys : List β}, Paired R xs ys → Paired R' xs ys
  | _, _, .nil => .nil
  | _, _, .cons a b => .cons (h _ _ a) (Paired.imp h b)
theorem AllL.lay {x : Str} (h : AllL x) : PyData.canLay0 (.str x) = true := by
  show x.cps.all (· < 0x110000) = true
  rw [← Array.all_toList, List.all_eq_true]
  intro c hc
  have := h c hc
  exact decide_eq_true (by omega)
theorem paired_at {α β : Type} {R : α → β → Prop} : ∀ {xs : List α} {ys : List β} {i : Nat} {x : α}, Paired R xs ys → xs[i]? = some x → ∃ y, ys[i]? = some y ∧ R x y
  | _, _, _, _, .nil, e => by simp at e
  | _, _, 0, _, .cons a _, e => by simp at e; subst e; exact ⟨_, rfl, a⟩
  | _, _, i + 1, x, .cons _ b, e => by
    obtain ⟨y, h1, h2⟩ := paired_at (i := i) (x := x) b (by simpa using e)
    exact ⟨y, by simpa using h1, h2⟩
end L2
namespace L2
open PySem PySem.Spec PyProof.Rows
theorem Paired.app {α β : Type} {R : α → β → Prop} : ∀ {xs xs' : List α} {ys ys' : List β}, Paired R xs ys → Paired R xs' ys' → Paired R (xs ++ xs') (ys ++ ys')
  | _, _, _, _, .nil, h => h
  | _, _, _, _, .cons a b, h => .cons a (Paired.app b h)
end L2
namespace L2
end L2
/-! ### the divisor of the program -/
/-! ### dict(pairs) -/
namespace PySem

namespace F
end F
namespace F
end F
section
variable {prog : Program} {w : World} {A : Around} {E : Value → Shared → Prop} {h : Heap} {g : Array GenState} {d : Drawn} {t : Nat} {os : OsState} {a : Addr} {o : Obj}
end
section
variable {prog : Program} {w : World} {K : Type} [DecidableEq K] {knd : KeyKind prog w K} {A : Around} {E : Value → Shared → Prop} {s : Shared}
namespace F
end F
end
end PySem
namespace L2
open PySem PySem.Spec PyProof.Rows
section
variable {X : Cx}
end
end L2
namespace L2
open PySem PySem.Spec PyProof.Rows
section
variable {X : Cx}
/-- isinstance(x, c) where x is a tuple that may be read -/
noncomputable def rIsT (K : PySem.W.Frag) : List V → Hp → VK → Prop := fun xs H Q => ∃ (x c : V) (a : Addr) (ys : List V) (b : Bool) (cv : Value), xs = [x, c] ∧ x = .ref a ∧ SqT K H a ys ∧ RelV c cv ∧ (∀ u, RelV c u → u = cv) ∧ PySem.W.kitOne K (.type "tuple") cv = some b ∧ Q (.bl b) H
theorem call_isT : CallR X (.builtin "isinstance") (rIsT X.K) := by
  intro pins s σ H xs us Q I r h
  obtain ⟨x, c, a, ys, b, cv, rfl, rfl, hx, rc, uc, e, q⟩ := h
  obtain ⟨u1, u2, rfl, r1, r2⟩ := vals2 r
  cases r1
  obtain rfl := uc u2 r2
  obtain ⟨its, rv, ⟨o, h1, h2, _⟩, hz⟩ := I.tuple hx
  exact PySem.W.kia_one PySem.W.kitx_tuple I.kIn ⟨o, h1, h2⟩ e (fun z => nomatch z) fun tk => ⟨.bl b, H, I.tok _, rfl, q⟩
end
/-! ### a dict of shares -/
/-- all stays but what is at d -/
noncomputable def SameX (d : Addr) (H H' : Hp) : Prop := ∀ b o, b ≠ d → H b = some o → H' b = some o
theorem SameX.tk {d : Addr} {H H' : Hp} {kvs : List (Key × V)} (s : SameX d H H') (h : H d = some (.dK kvs)) : TK H H' :=
  ⟨fun _ _ e => s _ _ (ne_of e h (fun z => nomatch z)) e, fun _ _ _ e => s _ _ (ne_of e h (fun z => nomatch z)) e⟩
theorem SameX.upd {d : Addr} {H : Hp} {o : HO} : SameX d H (upd H d o) := fun b u n e => by rw [upd_ne n]; exact e
theorem SameX.trans {d : Addr} {H H1 H2 : Hp} (a : SameX d H H1) (b : SameX d H1 H2) : SameX d H H2 := fun c o n e => b c o n (a c o n e)
theorem Same.x {d : Addr} {H H' : Hp} (a : Same H H') : SameX d H H' := fun c o _ e => a c o e
section
variable {K : PySem.W.Frag} {H : Hp}
end
end L2
namespace L2
open PySem PySem.Spec PyProof.Rows
/-! ### the order of texts -/
/-! ### fractions -/
/-! ### what is told of a dict of shares -/
theorem compT {K : PySem.W.Frag} {a : Addr} {xs : List V} {g : TG} {tt : TT} {te : TE} {σ0 : St} {Q : Hp → Prop} {D : Addr} {H : Hp} (Pv : Nat → List V → Hp → Prop) (h0 : Pv 0 [] H) (hl : ∀ i acc H, i ≤ xs.length → Pv i acc H → SqT K H a xs)
    (hs : ∀ i x acc H2, xs[i]? = some x → Pv i acc H2 → g x σ0 H2 fun σ2 H4 => tt σ2 H4 fun b H5 =>
      if b = true then te σ2 H5 fun y H6 => H6 D = some (.lst acc) ∧ acc.length < sizeLine ∧ Pv (i + 1) (acc ++ [y]) (upd H6 D (.lst (acc ++ [y]))) else Pv (i + 1) acc H5)
    (hd : ∀ acc H2, Pv xs.length acc H2 → Q H2) :
    ∃ W : Nat → Nat → List V → Hp → Prop, (∃ m, W 0 m [] H) ∧ ∀ i m acc H2, W i m acc H2 →
      ((Itt K a).stop i H2 ∧ Q H2) ∨ ((Itt K a).go i H2 ∧ ∃ N : List V → Hp → Prop, (∀ acc' H', N acc' H' → ∃ m', m' < m ∧ W (i + 1) m' acc' H') ∧ ∀ x H3, (Itt K a).yld i H2 x H3 → g x σ0 H3 fun σ2 H4 => tt σ2 H4 fun b H5 =>
        if b = true then te σ2 H5 fun y H6 => H6 D = some (.lst acc) ∧ acc.length < sizeLine ∧ N (acc ++ [y]) (upd H6 D (.lst (acc ++ [y]))) else N acc H5) := by
  refine ⟨fun i m acc H => m = xs.length - i ∧ i ≤ xs.length ∧ Pv i acc H, ⟨xs.length, by simp, Nat.zero_le _, h0⟩, ?_⟩
  rintro i m acc H2 ⟨rfl, hi, p⟩
  have q := hl i acc H2 hi p
  by_cases hlt : i < xs.length
  · refine .inr ⟨⟨xs, xs[i], q, by simp [hlt]⟩, Pv (i + 1), fun acc' H' p' => ⟨xs.length - (i + 1), by omega, rfl, hlt, p'⟩, fun x H3 y => ?_⟩
    obtain ⟨e, y⟩ := y
    subst e
    exact hs i x acc _ (y xs q) p
  · have e : i = xs.length := by omega
    subst e
    exact .inl ⟨⟨xs, q, Nat.le_refl _⟩, hd acc H2 p⟩
end L2
namespace L2
open PySem PySem.Spec PyProof.Rows
end L2
namespace L2
open PySem PySem.Spec PyProof.Rows
end L2
namespace L2
open PySem PySem.Spec PyProof.Rows
end L2
namespace L2
open PySem PySem.Spec PyProof.Rows
end L2
namespace L2
open PySem PySem.Spec
end L2
namespace L2
open PySem PySem.Spec PyProof.Rows
end L2
namespace L2
open PySem PySem.Spec PyProof.Rows
section
variable {X : Cx} {e k : Expr} {te : TE} {tk : TO} {pos p2 : Pos}
end
end L2
namespace L2
open PySem PySem.Spec PyProof.Rows
/-! ### mixed -/
end L2
namespace L2
open PySem PySem.Spec PyProof.Rows
end L2
namespace L2
end L2
namespace L2
open PySem PySem.Spec PyProof.Rows
/-! ### the lesser, quotients, sums -/
end L2
namespace L2
open PySem PySem.Spec PyProof.Rows
/-! ### who loses what -/
variable {D : Int} {O : Sh} {lack : Int × Int}
end L2
namespace L2
open PySem PySem.Spec PyProof.Rows
/-! ### the shares behind a part pressed -/
section
variable {D : Int} {S : Sh} {g k : Str} {f : Int × Int}
end
end L2
namespace L2
open PySem PySem.Spec PyProof.Rows
end L2
namespace L2
open PySem PySem.Spec PyProof.Rows
section
variable {D : Int} {S : Sh} {g k : Str} {f : Int × Int}
end
end L2
namespace L2
open PySem PySem.Spec PyProof.Rows
end L2
namespace L2
open PySem PySem.Spec PyProof.Rows
end L2
namespace L2
open PySem PySem.Spec PyProof.Rows
/-! ### columns as keys: tuples of tuples of ints and texts -/
noncomputable def keyD : Key → PyData
  | .inl i => .int i
  | .inr x => .str x
noncomputable def rowD (ks : List Key) : PyData := .tuple (ks.map keyD)
noncomputable def colD (c : List (List Key)) : PyData := .tuple (c.map rowD)
noncomputable def layK : Key → Bool
  | .inl _ => true
  | .inr x => PyData.canLay0 (.str x)
theorem key_eqv (a b : Key) : PyData.eqv (keyD a) (keyD b) = decide (a = b) := by
  cases a with
  | inl i =>
    cases b with
    | inl j =>
      show (i == j) = _
      by_cases h : i = j
      · subst h; simp
      · simp [h]
    | inr y => rfl
  | inr x =>
    cases b with
    | inl j => rfl
    | inr y =>
      show (x == y) = _
      by_cases h : x = y
      · subst h; simp
      · simp [h]
theorem row_eqv : ∀ (a b : List Key), PyData.eqvAll (a.map keyD) (b.map keyD) = decide (a = b)
  | [], [] => rfl
  | [], _ :: _ => rfl
  | _ :: _, [] => rfl
  | x :: a, y :: b => by
    show (PyData.eqv (keyD x) (keyD y) && PyData.eqvAll (a.map keyD) (b.map keyD)) = _
    rw [key_eqv, row_eqv a b]
    by_cases h1 : x = y
    · by_cases h2 : a = b
      · simp [h1, h2]
      · simp [h1, h2]
    · simp [h1]
theorem col_eqvAll : ∀ (a b : List (List Key)), PyData.eqvAll (a.map rowD) (b.map rowD) = decide (a = b)
  | [], [] => rfl
  | [], _ :: _ => rfl
  | _ :: _, [] => rfl
  | x :: a, y :: b => by
    show (PyData.eqvAll (x.map keyD) (y.map keyD) && PyData.eqvAll (a.map rowD) (b.map rowD)) = _
    rw [row_eqv, col_eqvAll a b]
    by_cases h1 : x = y
    · by_cases h2 : a = b
      · simp [h1, h2]
      · simp [h1, h2]
    · simp [h1]
theorem col_eqv (a b : List (List Key)) : PyData.eqv (colD a) (colD b) = decide (a = b) := col_eqvAll a b
theorem lay_row : ∀ (r : List Key), (∀ k ∈ r, layK k = true) → PyData.canLayAll0 (r.map keyD) = true
  | [], _ => rfl
  | k :: r, h => by
    have h1 : PyData.canLay0 (keyD k) = true := by
      have := h k (List.mem_cons_self ..)
      cases k with
      | inl i => rfl
      | inr x => exact this
    show (PyData.canLay0 (keyD k) && PyData.canLayAll0 (r.map keyD)) = true
    rw [h1, lay_row r fun x hx => h x (List.mem_cons_of_mem _ hx)]
    rfl
theorem lay_col : ∀ (c : List (List Key)), (∀ r ∈ c, ∀ k ∈ r, layK k = true) → PyData.canLayAll0 (c.map rowD) = true
  | [], _ => rfl
  | r :: c, h => by
    show (PyData.canLayAll0 (r.map keyD) && PyData.canLayAll0 (c.map rowD)) = true
    rw [lay_row r (h r (List.mem_cons_self ..)), lay_col c fun x hx => h x (List.mem_cons_of_mem _ hx)]
    rfl
theorem dep_row : ∀ (r : List Key), PyData.depthAll (r.map keyD) = 0
  | [] => rfl
  | k :: r => by
    show max (keyD k).depth (PyData.depthAll (r.map keyD)) = 0
    rw [dep_row r]
    cases k <;> rfl
theorem dep_cols : ∀ (c : List (List Key)), PyData.depthAll (c.map rowD) ≤ 1
  | [] => by show (0 : Nat) ≤ 1; decide
  | r :: c => by
    have h := dep_cols c
    have h2 : (rowD r).depth ≤ 1 := by
      show PyData.depthAll (r.map keyD) + 1 ≤ 1
      rw [dep_row]
      decide
    show max _ _ ≤ 1
    exact Nat.max_le.mpr ⟨h2, h⟩
theorem dep_col (c : List (List Key)) : (colD c).depth ≤ 2 := by
  have := dep_cols c
  show PyData.depthAll (c.map rowD) + 1 ≤ 2
  omega
section
variable {P : Program} {w : World}
inductive ColRows (P : Program) (w : World) (h : Heap) : List (List Key) → List Value → Prop
  | nil : ColRows P w h [] []
  | cons {k : List Key} {a : Addr} {ks : List (List Key)} {vs : List Value} : IsTupleKey (mixKind P w) h k a → ColRows P w h ks vs → ColRows P w h (k :: ks) (.ref a :: vs)
noncomputable def IsCol (P : Program) (w : World) (h : Heap) (c : List (List Key)) (a : Addr) : Prop :=
  (∀ r ∈ c, ∀ k ∈ r, layK k = true) ∧ ∃ ob its n, h.get? a = some ob ∧ ob.cls = .type "tuple" ∧ ob.data = .seq its n ∧ ColRows P w h c its.toList
theorem ColRows.one {h : Heap} {x y : List (List Key)} {us : List Value} (p : ColRows P w h x us) (q : ColRows P w h y us) : x = y := by
  induction p generalizing y with
  | nil => cases q; rfl
  | cons p1 _ ih =>
    cases q with
    | cons q1 q2 => rw [p1.inj q1, ih q2]
theorem IsCol.one {h : Heap} {x y : List (List Key)} {a : Addr} (p : IsCol P w h x a) (q : IsCol P w h y a) : x = y := by
  obtain ⟨_, ob, its, n, p1, _, p3, p4⟩ := p
  obtain ⟨_, ob', its', n', q1, _, q3, q4⟩ := q
  rw [p1] at q1
  cases q1
  rw [p3] at q3
  injection q3 with e _
  subst e
  exact p4.one q4
theorem ColRows.stay {h h' : Heap} {c : List (List Key)} {us : List Value} {d : Addr} {o : Obj} {es : Array DictEntry} {ep : Nat} (p : ColRows P w h c us) (ho : h.get? d = some o) (hd : o.data = .dict es ep) (hs : Heap.SameBut d h h') : ColRows P w h' c us := by
  induction p with
  | nil => exact .nil
  | cons p1 _ ih => exact .cons (p1.keeps ho hd hs) ih
theorem IsCol.stay {h h' : Heap} {c : List (List Key)} {a d : Addr} {o : Obj} {es : Array DictEntry} {ep : Nat} (p : IsCol P w h c a) (ho : h.get? d = some o) (hd : o.data = .dict es ep) (hs : Heap.SameBut d h h') : IsCol P w h' c a := by
  obtain ⟨l, ob, its, n, p1, p2, p3, p4⟩ := p
  have ne : a ≠ d := fun z => by
    rw [z, ho] at p1
    cases p1
    rw [hd] at p3
    cases p3
  exact ⟨l, ob, its, n, (hs.2 a ne).trans p1, p2, p3, p4.stay ho hd hs⟩
theorem IsCol.tyIs {s : Shared} {c : List (List Key)} {a : Addr} (p : IsCol P w s.heap c a) : s.TypeIs (.ref a) "tuple" := by
  obtain ⟨_, ob, _, _, p1, p2, _⟩ := p
  exact ⟨ob, p1, p2⟩
theorem rowKeys_reads {h : Heap} : ∀ {ks : List Key} {us : List Value}, ItemsAre (mixKind P w) ks us → ∃ as, ReadsAll h us (ks.map keyD) as
  | _, _, .nil => ⟨_, .nil⟩
  | _, _, .cons p1 p2 => by
    obtain ⟨as, r⟩ := rowKeys_reads p2
    rcases keyIs_shape p1 with ⟨i, t, rfl, rfl⟩ | ⟨x, t, rfl, rfl⟩
    · exact ⟨_, .cons (.int i t) r⟩
    · exact ⟨_, .cons (.str x t) r⟩
theorem rows_reads {h : Heap} : ∀ {c : List (List Key)} {us : List Value}, ColRows P w h c us → ∃ as, ReadsAll h us (c.map rowD) as
  | _, _, .nil => ⟨_, .nil⟩
  | _, _, .cons p1 p2 => by
    obtain ⟨as, r⟩ := rows_reads p2
    obtain ⟨ob, its, n, q1, q2, q3, q4⟩ := p1
    obtain ⟨bs, r2⟩ := rowKeys_reads (h := h) q4
    exact ⟨_, .cons (.tuple q1 q2 q3 r2) r⟩
theorem IsCol.reads {h : Heap} {c : List (List Key)} {a : Addr} (p : IsCol P w h c a) : ∃ as, Reads h (.ref a) (colD c) as := by
  obtain ⟨_, ob, its, n, p1, p2, p3, p4⟩ := p
  obtain ⟨as, r⟩ := rows_reads p4
  exact ⟨_, .tuple p1 p2 p3 r⟩
noncomputable def colHash (P : Program) (w : World) (c : List (List Key)) : Int := reduceHash (Builtin.Tuple.tupleHashOf (c.map (tupleKeyHash (mixKind P w))))
noncomputable def colDraws (c : List (List Key)) : Nat := (c.map fun r => r.length + 1).sum
variable {A : Around} {E : Value → Shared → Prop} {s : Shared}
theorem col_hash {c : List (List Key)} {a : Addr} {Q : Int → Shared → Prop} (room : A.units + 3 < cLine) (p : IsCol P w s.heap c a) (q : Q (colHash P w c) { s with toks := s.toks + (colDraws c + 1) }) :
    wpAny (model P w) A (pyHash (.ref a)) Q E s := by
  have ty := p.tyIs
  obtain ⟨_, ob, its, n, p1, _, p3, p4⟩ := p
  unfold pyHash
  first | unfold pyHashByItsType | skip
  first | refine wpAny_bind (wpAny_cRoomFor_or (.inr (by omega)) ?_) | skip
  refine wpAny_bind (wpAny_specialOf ty F.slot_tuple_hash.lookup ?_)
  show wpAny _ _ (if (some (Value.builtin "tuple.__hash__") == some Value.none) = true then _ else _) Q E s
  rw [if_neg (by rw [beq_builtin_none]; exact Bool.false_ne_true)]
  refine wpAny_bind (wpAny_specialOf ty F.slot_tuple_hash.lookup ?_)
  show wpAny _ _ (callSpecialIfBoundUnlessNone? (.ref a) "__hash__" _ >>= _) Q E s
  refine wpAny_bind (wpAny_callSpecialIfBoundUnlessNone?_slot ty F.slot_tuple_hash (wpAny_call_entry F.slot_tuple_hash ty F.entry_tuple_hash ?_ (F.args_tuple_hash_1 _)))
  show wpAny _ _ (Builtin.Tuple.tupleItemsOf (.ref a) >>= _) _ _ s
  refine wpAny_bind (wpAny_tupleItemsOf p1 p3 (wpAny_bind ?_))
  rw [← Array.forIn_toList]
  refine wpAny_forIn_list _ (fun left (acc : Array Int) s' => ∃ c1 c2, c = c1 ++ c2 ∧ ColRows P w s.heap c2 left ∧ acc.toList = c1.map (tupleKeyHash (mixKind P w)) ∧ s' = { s with toks := s.toks + colDraws c1 }) _ ?_ ?_ _ _ ⟨[], c, rfl, p4, rfl, rfl⟩
  · rintro u left acc s' ⟨c1, c2, rfl, r, e, rfl⟩
    cases r with
    | @cons k b ks vs r1 r2 =>
      refine wpAny_bind (wpAny_pyHash_tuple (ks := k) (by simp only [Around.in1_units]; omega) r1 ?_)
      have fin : ∃ d1 d2, c1 ++ k :: ks = d1 ++ d2 ∧ ColRows P w s.heap d2 left ∧ (acc.push (tupleKeyHash (mixKind P w) k)).toList = d1.map (tupleKeyHash (mixKind P w)) ∧ ({ s with toks := s.toks + colDraws c1 + (k.length + 1) } : Shared) = { s with toks := s.toks + colDraws d1 } :=
        ⟨c1 ++ [k], ks, by simp, r2, by simp [e], by simp [colDraws, Nat.add_assoc]⟩
      first
        | exact wpAny_pure fin
        | exact wpAny_bind (wpAny_pure (wpAny_pure fin))
  · rintro acc s' ⟨c1, c2, rfl, r, e, rfl⟩
    cases r
    rw [List.append_nil] at q
    show wpAny _ _ (retInt (Builtin.Tuple.tupleHashOf acc.toList)) _ _ _
    rw [e]
    refine wpAny_ret_mkInt ?_
    unfold colHash reduceHash at q
    generalize Builtin.Tuple.tupleHashOf (c1.map (tupleKeyHash (mixKind P w))) = z at q ⊢
    show wpAny _ _ (if (decide (-(2 : Int) ^ 63 ≤ z) && decide (z < 2 ^ 63)) = true then _ else _) Q E _
    by_cases hz : (decide (-(2 : Int) ^ 63 ≤ z) && decide (z < 2 ^ 63)) = true
    · rw [if_pos hz] at q ⊢
      exact wpAny_pure (by simpa [Nat.add_assoc] using q)
    · rw [if_neg hz] at q ⊢
      exact wpAny_bind (wpAny_rule (wpAny_pure (by simpa [Nat.add_assoc] using q)))
theorem col_eq {x y : List (List Key)} {a b : Addr} {Q : Bool → Shared → Prop} (room : A.units + 3 < cLine) (p : IsCol P w s.heap x a) (q : IsCol P w s.heap y b) (h : Q (decide (x = y)) s) : wpAny (model P w) A (eqBool (.ref a) (.ref b)) Q E s := by
  obtain ⟨as, ra⟩ := p.reads
  obtain ⟨bs, rb⟩ := q.reads
  have dx := dep_col x
  have dm := Nat.min_le_left (colD x).depth (colD y).depth
  rw [← col_eqv] at h
  exact SeqAt.eqAt_reads _ _ A s _ _ _ _ ra rb (lay_col x p.1) (lay_col y q.1) (by omega) P w E Q h
end
end L2
namespace L2
open PySem PySem.Spec PyProof.Rows
section
variable {P : Program} {w : World} {A : Around} {E : Value → Shared → Prop} {s : Shared}
theorem row_quiet {k : List Key} {a : Addr} (m : Nat) {Q : Bool → Shared → Prop} (p : IsTupleKey (mixKind P w) s.heap k a) (q : Q true s) : wpAny (model P w) A (eqIsQuiet (m + 1) (.ref a)) Q E s := by
  have ty := p.typeIs
  obtain ⟨ob, its, n, p1, _, p3, p4⟩ := p
  unfold eqIsQuiet
  refine wpAny_bind (wpAny_specialOf ty F.slot_tuple_eq.lookup ?_)
  show wpAny _ _ (isInstance (.ref a) (.type "tuple") >>= _) _ _ s
  refine wpAny_bind (wpAny_isInstance ty isSubtype_tuple_tuple ?_)
  simp only [Bool.not_true, Bool.false_eq_true, if_false]
  refine wpAny_bind (wpAny_seqItems p1 p3 (wpAny_bind ?_))
  show wpAny _ _ (forIn its _ _) _ _ s
  rw [← Array.forIn_toList]
  refine wpAny_forIn_list _ (fun left r s' => r.1 = none ∧ s' = s ∧ ∀ v ∈ left, carriedByValue v = true) _ ?_ ?_ _ _ ⟨rfl, rfl, p4.byValue⟩
  · rintro u left r s' ⟨hr, rfl, all⟩
    rw [eqIsQuiet_byValue m (all u List.mem_cons_self)]
    refine wpAny_bind (wpAny_pure ?_)
    simp only [Bool.not_true, Bool.false_eq_true, if_false]
    exact wpAny_pure ⟨rfl, rfl, fun z hz => all z (List.mem_cons_of_mem _ hz)⟩
  · rintro ⟨r1, r2⟩ s' ⟨hr, rfl, _⟩
    simp only at hr
    subst hr
    exact wpAny_pure q
theorem col_quiet {c : List (List Key)} {a : Addr} {Q : Bool → Shared → Prop} (p : IsCol P w s.heap c a) (q : Q true s) : wpAny (model P w) A (eqIsQuiet 8 (.ref a)) Q E s := by
  have ty := p.tyIs
  obtain ⟨_, ob, its, n, p1, _, p3, p4⟩ := p
  unfold eqIsQuiet
  refine wpAny_bind (wpAny_specialOf ty F.slot_tuple_eq.lookup ?_)
  show wpAny _ _ (isInstance (.ref a) (.type "tuple") >>= _) _ _ s
  refine wpAny_bind (wpAny_isInstance ty isSubtype_tuple_tuple ?_)
  simp only [Bool.not_true, Bool.false_eq_true, if_false]
  refine wpAny_bind (wpAny_seqItems p1 p3 (wpAny_bind ?_))
  show wpAny _ _ (forIn its _ _) _ _ s
  rw [← Array.forIn_toList]
  refine wpAny_forIn_list _ (fun left r s' => r.1 = none ∧ s' = s ∧ ∃ c2, ColRows P w s.heap c2 left) _ ?_ ?_ _ _ ⟨rfl, rfl, c, p4⟩
  · rintro u left r s' ⟨hr, rfl, c2, r2⟩
    cases r2 with
    | cons r3 r4 =>
      refine wpAny_bind (row_quiet 6 r3 ?_)
      simp only [Bool.not_true, Bool.false_eq_true, if_false]
      exact wpAny_pure ⟨rfl, rfl, _, r4⟩
  · rintro ⟨r1, r2⟩ s' ⟨hr, rfl, _⟩
    simp only at hr
    subst hr
    exact wpAny_pure q
end
/-- columns as keys -/
noncomputable def colKind (P : Program) (w : World) : HeapKind P w (List (List Key)) where
  is := IsCol P w
  hash := colHash P w
  draws := fun c => colDraws c + 1
  room := fun A => A.units + 3 < cLine
  inj := fun p q => p.one q
  keeps := fun p ho hd hs => p.stay ho hd hs
  pyHash := fun hu p q => col_hash hu p q
  eqBool := fun hu p q h => col_eq hu p q h
  quiet := fun p q => col_quiet p q
end L2
namespace L2
open PySem PySem.Spec PyProof.Rows
/-! ### dicts by columns -/
noncomputable abbrev Col := List (List Key)
noncomputable abbrev CT := List (Col × Addr × V)
/-- the object as it stands -/
noncomputable def ObjO (a : Addr) (o : Obj) : HO := .ext fun h => h.get? a = some o
theorem objO_ok {P : Program} {w : World} {H : Hp} {h : Heap} {a : Addr} {o : Obj} (e : h.get? a = some o) : ObjOk P w H h a (ObjO a o) := ⟨e, ⟨o, e⟩, fun _ _ e1 k => k o e1⟩
noncomputable def emptyD : Obj := { cls := .type "dict", data := .dict #[] }
noncomputable def CTv : CT → List (Col × Addr × Value) → Prop := Paired fun (t : Col × Addr × V) (v : Col × Addr × Value) => t.1 = v.1 ∧ t.2.1 = v.2.1 ∧ RelV t.2.2 v.2.2
structure ColO (P : Program) (w : World) (o : Obj) (T : CT) : Prop where
  ex : o.ExactDict
  len : T.length ≤ sizeLine
  es : ∃ es ep vs, o.data = .dict es ep ∧ es.toList = vs.map (entryOfKey (colKind P w)) ∧ CTv T vs ∧ (vs.map (·.1)).Nodup
theorem colO_empty (P : Program) (w : World) : ColO P w emptyD [] := ⟨⟨rfl, rfl, rfl⟩, Nat.zero_le _, #[], 0, [], rfl, rfl, .nil, List.nodup_nil⟩
noncomputable def ColV (K : PySem.W.Frag) (H : Hp) (b : Addr) (c : Col) : Prop := (∀ r ∈ c, ∀ k ∈ r, layK k = true) ∧ ∃ xs, SqT K H b xs ∧ Paired (fun (v : V) (r : List Key) => ∃ a, v = .ref a ∧ SqT K H a (r.map kV)) xs c
theorem ColV.tk {K : PySem.W.Frag} {H H' : Hp} {b : Addr} {c : Col} (t : TK H H') (h : ColV K H b c) : ColV K H' b c := by
  obtain ⟨l, xs, h1, h2⟩ := h
  exact ⟨l, xs, t.sq h1, Paired.imp (fun _ _ ⟨a, e, z⟩ => ⟨a, e, t.sq z⟩) h2⟩
theorem TK.obj {H : Hp} {D : Addr} {ob : Obj} {o : HO} (hD : H D = some (ObjO D ob)) : TK H (upd H D o) :=
  ⟨fun _ _ e => by rw [upd_ne (ne_of e hD (fun z => nomatch z))]; exact e, fun _ _ _ e => by rw [upd_ne (ne_of e hD (fun z => nomatch z))]; exact e⟩
noncomputable def atT (T : CT) (c : Col) : Option V := (T.find? fun t => decide (t.1 = c)).map (·.2.2)
noncomputable def putT (T : CT) (c : Col) (b : Addr) (v : V) : CT := if (T.any fun t => decide (t.1 = c)) = true then T.map (fun t => if t.1 = c then (t.1, t.2.1, v) else t) else T ++ [(c, b, v)]
section
variable {X : Cx} {pins : List (Addr × Obj)} {σ : St} {H : Hp} {s : Shared}
theorem ColV.is {b : Addr} {c : Col} (I : Inv X pins σ H s) (h : ColV X.K H b c) : IsCol X.prog X.w s.heap c b := by
  obtain ⟨l, xs, h1, h2⟩ := h
  obtain ⟨its, rv, ⟨ob, e1, e2, n, e3⟩, _⟩ := I.tuple h1
  refine ⟨l, ob, its.toArray, n, e1, e2, e3, ?_⟩
  have key : ∀ {xs : List V} {its : List Value} {c : Col}, Vals xs its → Paired (fun (v : V) (r : List Key) => ∃ a, v = .ref a ∧ SqT X.K H a (r.map kV)) xs c → ColRows X.prog X.w s.heap c its := by
    intro xs its c rv pr
    induction pr generalizing its with
    | nil => cases rv; exact .nil
    | cons p1 _ ih =>
      obtain ⟨a, rfl, ha⟩ := p1
      cases rv with
      | cons r1 r2 =>
        cases r1
        obtain ⟨its2, rv2, ⟨ob2, f1, f2, n2, f3⟩, _⟩ := I.tuple ha
        exact .cons ⟨ob2, its2.toArray, n2, f1, f2, f3, by simpa using items_are rv2⟩ (ih r2)
  simpa using key rv h2
theorem ct_keys : ∀ {T : CT} {vs : List (Col × Addr × Value)}, CTv T vs → ∀ v ∈ vs, ∃ t ∈ T, t.1 = v.1 ∧ t.2.1 = v.2.1
  | _, _, .nil, v, hv => by cases hv
  | _, _, .cons a b, v, hv => by
    rcases List.mem_cons.mp hv with e | e
    · subst e; exact ⟨_, List.mem_cons_self .., a.1, a.2.1⟩
    · obtain ⟨t, ht, h⟩ := ct_keys b v e
      exact ⟨t, List.mem_cons_of_mem _ ht, h⟩
theorem ColO.dict {d : Addr} {o : Obj} {T : CT} (I : Inv X pins σ H s) (hd : H d = some (ObjO d o)) (ho : ColO X.prog X.w o T) (hk : ∀ t ∈ T, ColV X.K H t.2.1 t.1) : ∃ vs, CTv T vs ∧ s.heap.DictOfH (colKind X.prog X.w) d vs := by
  obtain ⟨es, ep, vs, h1, h2, h3, h4⟩ := ho.es
  have e : s.heap.get? d = some o := (I.hok d _ hd).1
  refine ⟨vs, h3, o, es, ep, e, ho.ex, h1, h2, fun v hv => ?_, h4⟩
  obtain ⟨t, ht, e1, e2⟩ := ct_keys h3 v hv
  rw [← e1, ← e2]
  exact (hk t ht).is I
theorem ct_len {T : CT} {vs : List (Col × Addr × Value)} (h : CTv T vs) : T.length = vs.length := Paired.length h
theorem ct_at {c : Col} : ∀ {T : CT} {vs : List (Col × Addr × Value)}, CTv T vs → (atT T c = none ∧ atKey vs c = none) ∨ ∃ v p, atT T c = some v ∧ atKey vs c = some p ∧ RelV v p.2
  | _, _, .nil => .inl ⟨rfl, rfl⟩
  | _, _, @Paired.cons _ _ _ t u _ _ a b => by
    by_cases h : t.1 = c
    · have h' : u.1 = c := a.1.symm.trans h
      refine .inr ⟨t.2.2, u.2, ?_, ?_, a.2.2⟩
      · simp [atT, List.find?_cons, h]
      · simp [atKey, List.find?_cons, h']
    · have h' : ¬ u.1 = c := fun z => h (a.1.trans z)
      have ih := ct_at (c := c) b
      simpa [atT, atKey, List.find?_cons, h, h'] using ih
theorem ct_any {c : Col} : ∀ {T : CT} {vs : List (Col × Addr × Value)}, CTv T vs → (T.any fun t => decide (t.1 = c)) = (atKey vs c).isSome
  | _, _, .nil => rfl
  | _, _, @Paired.cons _ _ _ t u _ _ a b => by
    have ih := ct_any (c := c) b
    rw [List.any_cons, ih]
    by_cases h : t.1 = c
    · have h' : u.1 = c := a.1.symm.trans h
      simp [atKey, List.find?_cons, h, h']
    · have h' : ¬ u.1 = c := fun z => h (a.1.trans z)
      simp [atKey, List.find?_cons, h, h']
theorem ct_map {c : Col} {v : V} {u : Value} (r : RelV v u) : ∀ {T : CT} {vs : List (Col × Addr × Value)}, CTv T vs → CTv (T.map fun t => if t.1 = c then (t.1, t.2.1, v) else t) (vs.map (putAt c u))
  | _, _, .nil => .nil
  | _, _, @Paired.cons _ _ _ t q _ _ a b => by
    rw [List.map_cons, List.map_cons]
    refine .cons ?_ (ct_map r b)
    unfold putAt
    by_cases h : t.1 = c
    · rw [if_pos h, if_pos (a.1.symm.trans h)]; exact ⟨a.1, a.2.1, r⟩
    · rw [if_neg h, if_neg (fun z => h (a.1.trans z))]; exact a
theorem ct_put {c : Col} {b : Addr} {v : V} {u : Value} (r : RelV v u) {T : CT} {vs : List (Col × Addr × Value)} (h : CTv T vs) : CTv (putT T c b v) (storedH vs c b u) := by
  unfold putT storedH
  rw [ct_any h]
  split
  · exact ct_map r h
  · exact Paired.app h (.cons ⟨rfl, rfl, r⟩ .nil)
theorem putT_len (T : CT) (c : Col) (b : Addr) (v : V) : (putT T c b v).length ≤ T.length + 1 := by
  unfold putT
  split
  · rw [List.length_map]; omega
  · rw [List.length_append]; simp
end
/-- {}, to be a dict by columns -/
noncomputable def tDNewC : TE := fun _ H Q => ∀ p, H p = none → (p == sysModules) = false → Q (.ref p) (upd H p (ObjO p emptyD))
/-- what a dict by columns is, at d -/
noncomputable def ColAt (P : Program) (w : World) (K : PySem.W.Frag) (H : Hp) (d : Addr) (o : Obj) (T : CT) : Prop := H d = some (ObjO d o) ∧ ColO P w o T ∧ (d == sysModules) = false ∧ ∀ t ∈ T, ColV K H t.2.1 t.1
noncomputable def tCGet (P : Program) (w : World) (K : PySem.W.Frag) (td ty : TE) : TE := fun σ H Q => td σ H fun x H1 => ty σ H1 fun y H2 => ∃ d o T b c v, x = .ref d ∧ ColAt P w K H2 d o T ∧ y = .ref b ∧ ColV K H2 b c ∧ atT T c = some v ∧ Q v H2
noncomputable def tCGet2 (P : Program) (w : World) (K : PySem.W.Frag) (td ty tx : TE) : TE := fun σ H Q => td σ H fun x H1 => ∃ d o T, x = .ref d ∧ ColAt P w K H1 d o T ∧ ty σ H1 fun y H2 => tx σ H2 fun z H3 => ∃ o' T' b c, ColAt P w K H3 d o' T' ∧ y = .ref b ∧ ColV K H3 b c ∧ Q ((atT T' c).getD z) H3
noncomputable def sCPut (P : Program) (w : World) (K : PySem.W.Frag) (td ty tv : TE) : TS := fun D σ H => tv σ H fun v H1 => td σ H1 fun x H2 => ty σ H2 fun y H3 => ∃ d o T b c, x = .ref d ∧ ColAt P w K H3 d o T ∧ y = .ref b ∧ ColV K H3 b c ∧ T.length < 1000 ∧ ∀ o', ColO P w o' (putT T c b v) → D.nx σ (upd H3 d (ObjO d o'))
section
variable {X : Cx} {o i e f value : Expr} {td ty tv tx : TE} {pos pos' apos cpos : Pos}
theorem pe_dnewC : PE X (.Dict [] [] pos) tDNewC := fun pins s σ H Q I h =>
  wpAny_Dict_empty ⟨.ref s.heap.objs.size, _, I.laid (a := s.heap.objs.size) (o := ObjO s.heap.objs.size emptyD) (t' := s.toks) (fun _ _ q => Heap.get?_push_of_some _ q) (Nat.le_refl _) (objO_ok (Heap.get?_push_size _ rfl)), rfl, h _ (I.hok.fresh (Nat.le_refl _)) (beq_eq_false_iff_ne.mpr (Ne.symm (Nat.ne_of_lt I.big)))⟩
theorem pe_cget (hu : X.A.units + 64 < cLine) (ho : PE X o td) (hi : PE X i ty) (hs : NoSl i) : PE X (.Subscript o i pos) (tCGet X.prog X.w X.K td ty) := by
  intro pins s σ H Q I h
  refine subD_of PySem.F.slot_dict_getitem.lookup hs (thn (ho pins s σ H _ I h) fun u s1 ⟨x, H1, I1, rx, q1⟩ => thn (hi pins s1 σ H1 _ I1 q1) fun iv s2 ⟨y, H2, I2, ry, d, ob, T, b, c, v, ex, hc, ey, hb, hv, q2⟩ => ?_)
  subst ex ey
  cases rx
  cases ry
  obtain ⟨h1, h2, h3, h4⟩ := hc
  obtain ⟨vs, rv, DD⟩ := h2.dict I2 h1 h4
  rcases ct_at (c := c) rv with ⟨z, _⟩ | ⟨v', p, z1, z2, z3⟩
  · rw [hv] at z; cases z
  · rw [hv] at z1
    cases z1
    exact ⟨DD.typeIs, wpAny_getItem_heap (show X.A.in1.units + 3 < cLine by simp only [Around.in1_units]; omega) (hb.is I2) DD z2 ⟨v, H2, I2.tok _, z3, q2⟩⟩
theorem ps_cput (hu : X.A.units + 64 < cLine) (ho : PE X o td) (hi : PE X i ty) (hv : PE X value tv) (hs : swapsWith value (some (.Subscript o i pos')) pos.line X.env = pure false) :
    PS X (.Assign [.Subscript o i pos'] value pos) (sCPut X.prog X.w X.K td ty tv) := by
  intro pins s σ H D I h
  refine wpAny_Assign_Subscript (thn (hv pins s σ H _ I h) fun r s1 ⟨v, H1, I1, rv, q1⟩ => thn (ho pins s1 σ H1 _ I1 q1) fun u s2 ⟨x, H2, I2, rx, q2⟩ => thn (hi pins s2 σ H2 _ I2 q2) fun iv s3 ⟨y, H3, I3, ry, d, ob, T, b, c, ex, hc, ey, hb, hl, q3⟩ => ?_) hs
  subst ex ey
  cases rx
  cases ry
  obtain ⟨h1, h2, h3, h4⟩ := hc
  obtain ⟨vs, rT, DD⟩ := h2.dict I3 h1 h4
  have lt := ct_len rT
  have sl : (1000 : Nat) ≤ sizeLine := by decide
  refine wpAny_setItem_heap (hsz := by omega) (show X.A.in1.units + 3 < cLine by simp only [Around.in1_units]; omega) (hb.is I3) DD fun h' DD' hs' => ?_
  obtain ⟨ob', es', ep', e1, e2, e3, e4, _, e6⟩ := DD'
  have ho' : ColO X.prog X.w ob' (putT T c b v) := ⟨e2, by have := putT_len T c b v; omega, es', ep', _, e3, e4, ct_put rv rT, e6⟩
  exact ⟨σ, _, d_write I3 (by rw [h1]; exact True.intro) hs' ⟨ob', e1⟩ (objO_ok e1), q3 ob' ho'⟩
theorem pe_cget2 (hu : X.A.units + 64 < cLine) (ho : PE X o td) (he : PE X e ty) (hf : PE X f tx) (m : M2 X o "get" apos e f cpos) : PE X (.Call (.Attribute o "get" apos) [e, f] [] cpos) (tCGet2 X.prog X.w X.K td ty tx) := by
  intro pins s σ H Q I h
  refine wpAny_Call_method m.base m.few m.line PySem.F.plainAttrs_dict PySem.F.slot_dict_get PySem.F.type_dict_get (thn (ho pins s σ H _ I h) fun u s1 ⟨x, H1, I1, rx, d, ob, T, ex, hc, q1⟩ => ?_)
  subst ex
  cases rx
  obtain ⟨h1, h2, h3, h4⟩ := hc
  have e0 : s1.heap.get? d = some ob := (I1.hok d _ h1).1
  refine ⟨⟨ob, e0, h2.ex.1⟩, fun b q => ?_, ?_⟩
  · cases q
    exact ⟨ob, e0, h2.ex.2.1⟩
  rw [m.trees]
  refine Calls.callWith_builtin rfl (Calls.evalArgs_plain (Calls.spliced_cons (thn (he pins s1 σ H1 _ I1 q1) fun iv s2 ⟨y, H2, I2, ry, q2⟩ => Calls.spliced_cons (thn (hf pins s2 σ H2 _ I2 q2) fun fv s3 ⟨z, H3, I3, rz, ob', T', b, c, hc', ey, hb, q3⟩ => Calls.spliced_nil ?_))))
  subst ey
  cases ry
  obtain ⟨g1, g2, g3, g4⟩ := hc'
  obtain ⟨vs, rT, DD⟩ := g2.dict I3 g1 g4
  refine call_meetsIn PySem.F.slot_dict_get DD.typeIs PySem.F.entry_dict_get (PySem.F.args_dict_get_3 _ _ _) (meetsH_dict_get_default (colKind X.prog X.w) d b g3 fv) ⟨show X.A.in1.units + 3 < cLine by simp only [Around.in1_units]; omega, c, vs, hb.is I3, DD, ?_⟩
  rcases ct_at (c := c) rT with ⟨z1, z2⟩ | ⟨v', p, z1, z2, z3⟩
  · rw [z1] at q3
    rw [z2]
    exact ⟨z, H3, I3.tok _, rz, q3⟩
  · rw [z1] at q3
    rw [z2]
    exact ⟨v', H3, I3.tok _, z3, q3⟩
end
end L2
namespace L2
open PySem PySem.Spec PyProof.Rows
section
variable {P : Program} {w : World} {A : Around} {E : Value → Shared → Prop} {s : Shared} {it d : Addr} {i ep : Nat} {od : Obj} {es : Array DictEntry}
/-- the keys of a dict, whatever they are -/
theorem keys_begin {Q : Value → Shared → Prop} (nm : (d == sysModules) = false) (g : s.heap.get? d = some od) (x : od.ExactDict) (gd : od.data = .dict es ep)
    (q : Q (.ref s.heap.objs.size) { s with heap := s.heap.push { cls := .type "dict_keyiterator", data := .fields #[.ref d, .int 0 0, .int es.size 0, .int ep 0] } }) : wpAny (model P w) A (pyIter (.ref d)) Q E s := by
  have ty : s.TypeIs (.ref d) "dict" := ⟨od, g, x.1⟩
  refine wpAny_pyIter_slot ty F.slot_dict_iter (wpAny_call_entry F.slot_dict_iter ty F.entry_dict_iter ?_ (F.args_dict_iter_1 _))
  unfold Builtin.«dict.__iter__» Builtin.Dict.dictSlotNone
  refine wpAny_bind (wpAny_bind (wpAny_notOrdered_dict ty ?_))
  refine wpAny_pure ?_
  refine wpAny_bind (show wpAny (model P w) A.in1 (pure d) _ _ _ from wpAny_pure ?_)
  unfold Builtin.Dict.showsAll
  rw [if_neg (by rw [nm]; exact Bool.false_ne_true)]
  refine wpAny_bind (wpAny_pure (wpAny_bind (wpAny_dictEntries g gd (wpAny_bind (wpAny_dictEpoch g gd ?_)))))
  refine wpAny_bind (wpAny_newObj_type (wpAny_pure ⟨_, rfl, "dict_keyiterator", _, ⟨_, Heap.get?_push_size _ rfl, rfl⟩, F.slot_dict_keyiterator_next.lookup, ?_⟩))
  simpa [rawInt] using q
theorem keys_item {Q : Option Value → Shared → Prop} {en : DictEntry} (hit : s.heap.IsKeyIter it d i es.size ep) (g : s.heap.get? d = some od) (gd : od.data = .dict es ep) (hx : es[i]? = some en)
    (q : ∀ h', h'.IsKeyIter it d (i + 1) es.size ep → Heap.SameBut it s.heap h' → Q (some en.key) { s with heap := h' }) : wpAny (model P w) A (pyNext (.ref it)) Q E s := by
  obtain ⟨oi, gi, ci, di⟩ := id hit
  unfold pyNext
  refine wpAny_bind (wpAny_attempt (wpAny_callSpecial?_slot (name := Str.ofString "__next__") hit.typeIs F.slot_dict_keyiterator_next (wpAny_call_entry F.slot_dict_keyiterator_next hit.typeIs F.entry_dict_keyiterator_next ?_ (F.args_dict_keyiterator_next_1 _))))
  refine wpAny_bind (wpAny_pure (wpAny_bind (wpAny_bind ?_)))
  first | refine wpAny_bind (wpAny_typeNameOfWhole_keyiter hit.typeIs (wpAny_pure ?_)) | refine wpAny_bind (wpAny_typeNameOf_keyiter hit.typeIs (wpAny_pure ?_))
  refine wpAny_bind (wpAny_fieldsOf gi di ?_)
  have nown : Builtin.Dict_items.ownsTuple "dict_keyiterator" = false := by decide
  simp only [nown, Bool.false_eq_true, if_false]
  show wpAny _ _ (if (Value.ref d == Value.none) = true then _ else _) _ _ s
  rw [if_neg (show ¬ ((Value.ref d == Value.none) = true) from Bool.false_ne_true)]
  refine wpAny_bind (wpAny_pure (wpAny_bind (wpAny_dictEntries g gd ?_)))
  rw [if_neg (by simp)]
  refine wpAny_bind (wpAny_pure (wpAny_bind (wpAny_dictEpoch g gd ?_)))
  rw [if_neg (by simp)]
  refine wpAny_pure ?_
  simp only [show ¬ ((i : Int) < 0) from by omega, if_false, Int.toNat_natCast, hx]
  refine wpAny_bind ?_
  first | refine wpAny_bind (wpAny_typeNameOfWhole_keyiter hit.typeIs (wpAny_pure ?_)) | refine wpAny_bind (wpAny_typeNameOf_keyiter hit.typeIs (wpAny_pure ?_))
  refine wpAny_bind (wpAny_isOneOf_keyiter hit.typeIs ?_)
  show wpAny _ _ (setField (.ref it) 1 (rawInt ((i : Int) + 1)) >>= _) _ _ s
  refine wpAny_bind (wpAny_setField gi di (by simp) ?_)
  have nx : (s.heap.update it (Obj.mapFields (·.setIfInBounds 1 (rawInt ((i : Int) + 1))))).IsKeyIter it d (i + 1) es.size ep :=
    ⟨_, Heap.get?_update_self _ gi (Obj.isFreed_of_fields (Obj.data_mapFields di _)), (Obj.cls_mapFields ..).trans ci, by rw [Obj.data_mapFields di]; simp [rawInt]⟩
  refine wpAny_bind (wpAny_holding (wpAny_bind (wpAny_isOneOf_keyiter (s := { s with heap := s.heap.update it (Obj.mapFields (·.setIfInBounds 1 (rawInt ((i : Int) + 1)))) }) nx.typeIs ?_)))
  show wpAny _ _ (pure en.key) _ _ _
  exact wpAny_pure (wpAny_pure ⟨_, rfl, wpAny_pure (q _ nx (Heap.SameBut.update ..))⟩)
theorem keys_end {Q : Option Value → Shared → Prop} (hh : A.handled = none) (hit : s.heap.IsKeyIter it d i es.size ep) (g : s.heap.get? d = some od) (gd : od.data = .dict es ep) (hx : es.size ≤ i)
    (q : ∀ h', Heap.ExtBut it s.heap h' → Q none { s with heap := h' }) : wpAny (model P w) A (pyNext (.ref it)) Q E s := by
  obtain ⟨oi, gi, ci, di⟩ := id hit
  unfold pyNext
  refine wpAny_bind (wpAny_attempt (wpAny_callSpecial?_slot (name := Str.ofString "__next__") hit.typeIs F.slot_dict_keyiterator_next (wpAny_call_entry F.slot_dict_keyiterator_next hit.typeIs F.entry_dict_keyiterator_next ?_ (F.args_dict_keyiterator_next_1 _))))
  refine wpAny_bind (wpAny_pure (wpAny_bind (wpAny_bind ?_)))
  first | refine wpAny_bind (wpAny_typeNameOfWhole_keyiter hit.typeIs (wpAny_pure ?_)) | refine wpAny_bind (wpAny_typeNameOf_keyiter hit.typeIs (wpAny_pure ?_))
  refine wpAny_bind (wpAny_fieldsOf gi di ?_)
  have nown : Builtin.Dict_items.ownsTuple "dict_keyiterator" = false := by decide
  simp only [nown, Bool.false_eq_true, if_false]
  show wpAny _ _ (if (Value.ref d == Value.none) = true then _ else _) _ _ s
  rw [if_neg (show ¬ ((Value.ref d == Value.none) = true) from Bool.false_ne_true)]
  refine wpAny_bind (wpAny_pure (wpAny_bind (wpAny_dictEntries g gd ?_)))
  rw [if_neg (by simp)]
  refine wpAny_bind (wpAny_pure (wpAny_bind (wpAny_dictEpoch g gd ?_)))
  rw [if_neg (by simp)]
  refine wpAny_pure ?_
  simp only [show ¬ ((i : Int) < 0) from by omega, if_false, Int.toNat_natCast, Array.getElem?_eq_none hx]
  refine wpAny_bind ?_
  first | refine wpAny_bind (wpAny_typeNameOfWhole_keyiter hit.typeIs (wpAny_pure ?_)) | refine wpAny_bind (wpAny_typeNameOf_keyiter hit.typeIs (wpAny_pure ?_))
  show wpAny _ _ (setField (.ref it) 0 .none >>= _) _ _ s
  refine wpAny_bind (wpAny_setField gi di (by simp) ?_)
  show wpAny _ _ (newExc (.type "StopIteration") [] >>= _) _ _ _
  simp only [newExc, newTuple]
  refine wpAny_bind (wpAny_bind (wpAny_newObj_type ?_ (by size_fits)))
  refine wpAny_bind (m := firstArgMember _ _) (wpAny_of_eq (a := Value.none) (by first | rfl | (simp only [firstArgMember]; rfl)) (wpAny_newObj_type ?_ (by size_fits)))
  simp only [raiseNew]
  refine wpAny_bind (wpAny_handled ?_)
  rw [show A.in1.handled = none from hh]
  refine wpAny_bind (wpAny_pure (wpAny_throw ?_))
  refine wpAny_bind (wpAny_isInstance (b := true) (T := "StopIteration") ⟨_, Heap.get?_push_size _ rfl, rfl⟩ isSubtype_stop ?_)
  exact wpAny_pure (q _ (((Heap.SameBut.update ..).extBut.push _).push _))
end
/-- the keys of a dict by columns -/
noncomputable def Itc (d : Addr) (o : Obj) (T : CT) : It :=
  ⟨fun i H => H d = some (ObjO d o) ∧ i < T.length, fun i H x H' => H' = H ∧ ∃ t, T[i]? = some t ∧ x = .ref t.2.1, fun i H => H d = some (ObjO d o) ∧ T.length ≤ i⟩
theorem turn_col {P : Program} {w : World} {K : PySem.W.Frag} {tg : Expr} (d it : Addr) (o : Obj) (T : CT) {es : Array DictEntry} {ep : Nat} (hd : o.data = .dict es ep) (hT : ∃ vs, es.toList = vs.map (entryOfKey (colKind P w)) ∧ CTv T vs) :
    Turn P w K tg (Itc d o T) [it] it (fun i h => h.IsKeyIter it d i es.size ep) where
  mem := by simp
  obj := fun i h st b hb => by
    have e : b = it := by simpa using hb
    subst e
    obtain ⟨o, e, c, d⟩ := st
    exact ⟨o, e, fun v z => by rw [d] at z; cases z⟩
  keep := fun i h h' st k => st.at fun o e => k it (by simp) o e
  item := by
    intro X hP hw hK hc i pins s σ H E I hf st hg
    obtain ⟨ha, hi⟩ := hg
    obtain ⟨vs, e1, e2⟩ := hT
    have lt := ct_len e2
    have g : s.heap.get? d = some o := (I.hok d _ ha).1
    obtain ⟨t, ht⟩ : ∃ t, T[i]? = some t := ⟨T[i], by simp [hi]⟩
    obtain ⟨v, hv, r1, r2, r3⟩ := paired_at e2 ht
    have he : es[i]? = some (entryOfKey (colKind P w) v) := by
      rw [← Array.getElem?_toList, e1, List.getElem?_map, hv]
      rfl
    obtain ⟨f0, f1, f2, f3, f4, f5⟩ := hf it (by simp)
    refine keys_item st g hd he fun h' st' sb => ?_
    have I1 : Inv X pins σ H { s with heap := h' } := I.turned (t' := s.toks) (fun b o hb e => (sb.2 b hb).trans e) f0 f1 f3 f4 f5
    obtain ⟨oi, e, c, d'⟩ := id st'
    exact ⟨_, rfl, go_of (s := { s with heap := h' }) e c d' (by decide) ⟨.ref t.2.1, H, I1, by rw [r2]; rfl, ⟨rfl, t, ht, rfl⟩, st', fun b hb => (hf b hb).1⟩⟩
  done := by
    intro X hP hw hK hc i pins s σ H E I hf st hg
    obtain ⟨ha, hi⟩ := hg
    obtain ⟨vs, e1, e2⟩ := hT
    have lt := ct_len e2
    have g : s.heap.get? d = some o := (I.hok d _ ha).1
    have le : es.size = vs.length := by rw [← Array.length_toList, e1, List.length_map]
    obtain ⟨f0, f1, f2, f3, f4, f5⟩ := hf it (by simp)
    exact keys_end (I.ok.hd hc) st g hd (by omega) fun h' eb => ⟨rfl, I.turned (t' := s.toks) (fun b o hb e => eb b o hb e) f0 f1 f3 f4 f5⟩
  self := fun _ _ _ _ _ st h => wpAny_pyIter_keyiter st h
section
variable {X : Cx} {tg : Expr}
/-- for c in d, a dict by columns -/
noncomputable def iCol (P : Program) (w : World) (tl : TE) : TI := fun σ H R => tl σ H fun x H1 => ∃ d o T, x = .ref d ∧ H1 d = some (ObjO d o) ∧ ColO P w o T ∧ (d == sysModules) = false ∧ R (Itc d o T) H1
theorem pi_col {l : Expr} {tl : TE} (hl : PE X l tl) : PI X tg l (iCol X.prog X.w tl) := by
  intro pins s σ H R I h
  refine thn (hl pins s σ H _ I h) fun v s1 ⟨x, H1, I1, r1, q1⟩ => ?_
  obtain ⟨d, o, T, rfl, hd, ho, nm, q⟩ := q1
  cases r1
  obtain ⟨es, ep, vs, e1, e2, e3, e4⟩ := ho.es
  have g : s1.heap.get? d = some o := (I1.hok d _ hd).1
  refine keys_begin nm g ho.ex e1 ?_
  refine ⟨s1.heap.objs.size, [s1.heap.objs.size], _, _, H1, rfl, I1.kept (t' := s1.toks) fun b o e => Heap.get?_push_of_some _ e, turn_col d _ o T e1 ⟨vs, e2, e3⟩, ⟨_, Heap.get?_push_size _ rfl, rfl, rfl⟩, fun b hb => ?_, q⟩
  have e : b = s1.heap.objs.size := by simpa using hb
  subst e
  exact I1.fpOk (Nat.le_refl _) (I1.hok.fresh (Nat.le_refl _))
/-- over a dict by columns that stays -/
theorem compC {d : Addr} {o : Obj} {T : CT} {g : TG} {tt : TT} {te : TE} {σ0 : St} {Q : Hp → Prop} {D : Addr} {H : Hp} (Pv : Nat → List V → Hp → Prop) (h0 : Pv 0 [] H) (hl : ∀ i acc H, i ≤ T.length → Pv i acc H → H d = some (ObjO d o))
    (hs : ∀ i t acc H2, T[i]? = some t → Pv i acc H2 → g (.ref t.2.1) σ0 H2 fun σ2 H4 => tt σ2 H4 fun b H5 =>
      if b = true then te σ2 H5 fun y H6 => H6 D = some (.lst acc) ∧ acc.length < sizeLine ∧ Pv (i + 1) (acc ++ [y]) (upd H6 D (.lst (acc ++ [y]))) else Pv (i + 1) acc H5)
    (hd : ∀ acc H2, Pv T.length acc H2 → Q H2) :
    ∃ W : Nat → Nat → List V → Hp → Prop, (∃ m, W 0 m [] H) ∧ ∀ i m acc H2, W i m acc H2 →
      ((Itc d o T).stop i H2 ∧ Q H2) ∨ ((Itc d o T).go i H2 ∧ ∃ N : List V → Hp → Prop, (∀ acc' H', N acc' H' → ∃ m', m' < m ∧ W (i + 1) m' acc' H') ∧ ∀ x H3, (Itc d o T).yld i H2 x H3 → g x σ0 H3 fun σ2 H4 => tt σ2 H4 fun b H5 =>
        if b = true then te σ2 H5 fun y H6 => H6 D = some (.lst acc) ∧ acc.length < sizeLine ∧ N (acc ++ [y]) (upd H6 D (.lst (acc ++ [y]))) else N acc H5) := by
  refine ⟨fun i m acc H => m = T.length - i ∧ i ≤ T.length ∧ Pv i acc H, ⟨T.length, by simp, Nat.zero_le _, h0⟩, ?_⟩
  rintro i m acc H2 ⟨rfl, hi, p⟩
  have q := hl i acc H2 hi p
  by_cases hlt : i < T.length
  · refine .inr ⟨⟨q, hlt⟩, Pv (i + 1), fun acc' H' p' => ⟨T.length - (i + 1), by omega, rfl, hlt, p'⟩, fun x H3 y => ?_⟩
    obtain ⟨e, t, ht, rfl⟩ := y
    subst e
    exact hs i t acc _ ht p
  · have e : i = T.length := by omega
    subst e
    exact .inl ⟨⟨q, Nat.le_refl _⟩, hd acc H2 p⟩
end
end L2
namespace PySem
namespace F
end F
section
variable {prog : Program} {w : World} {A : Around} {E : Value → Shared → Prop} {s : Shared} {r l : Addr} {items : Array Value}
end
end PySem
namespace PySem
section
variable {prog : Program} {w : World} {A : Around} {E : Value → Shared → Prop} {s : Shared} {r l : Addr} {items : Array Value}
end
end PySem
namespace L2
open PySem PySem.Spec PyProof.Rows
section
variable {X : Cx}
end
end L2
namespace L2
open PySem PySem.Spec PyProof.Rows
open LM (lowN low_spec low_lt)
instance memCol (c : Col) (D : List Col) : Decidable (c ∈ D) := decidable_of_iff (D.any (fun x => decide (x = c)) = true) (by
  rw [List.any_eq_true]
  constructor
  · rintro ⟨x, hx, e⟩; rw [← of_decide_eq_true e]; exact hx
  · intro h; exact ⟨c, h, decide_eq_true rfl⟩)
/-! ### strips -/
noncomputable abbrev Strp := List (Nat × Col)
structure IsStr (g : Nat → Option Col) (R : Strp) : Prop where
  nd : (R.map (·.2)).Nodup
  ok : ∀ p ∈ R, p.1 < 2 ^ 64 ∧ p.1 ≠ 0 ∧ ∀ i, i < 64 → (p.1.testBit i = true ↔ g i = some p.2)
  all : ∀ i c, i < 64 → g i = some c → c ∈ R.map (·.2)
  so : R.Pairwise fun p q => lowN p.1 < lowN q.1
theorem bits_eq {a b : Nat} (ha : a < 2 ^ 64) (hb : b < 2 ^ 64) (h : ∀ i, i < 64 → (a.testBit i = true ↔ b.testBit i = true)) : a = b := by
  refine Nat.eq_of_testBit_eq fun i => ?_
  by_cases hi : i < 64
  · have := h i hi
    cases e1 : a.testBit i <;> cases e2 : b.testBit i <;> simp_all
  · have z : ∀ {c : Nat}, c < 2 ^ 64 → c.testBit i = false := fun {c} hc => Nat.testBit_lt_two_pow (Nat.lt_of_lt_of_le hc (Nat.pow_le_pow_right (by decide) (by omega)))
    rw [z ha, z hb]
theorem IsStr.sub {g : Nat → Option Col} {R S : Strp} (h : IsStr g R) (k : IsStr g S) {p : Nat × Col} (hp : p ∈ R) : p ∈ S := by
  obtain ⟨p1, p0, pb⟩ := h.ok p hp
  obtain ⟨b1, _⟩ := low_spec p1 p0
  have lt : lowN p.1 < 64 := low_lt p1 (by decide) p0
  have hc := k.all _ _ lt ((pb _ lt).mp b1)
  obtain ⟨q, hq, e⟩ := List.mem_map.mp hc
  obtain ⟨q1, q0, qb⟩ := k.ok q hq
  have em : p.1 = q.1 := bits_eq p1 q1 fun i hi => by rw [pb i hi, qb i hi, e]
  have : p = q := Prod.ext em e.symm
  rw [this]
  exact hq
theorem nodup_of_snd {R : Strp} (h : (R.map (·.2)).Nodup) : R.Nodup := by
  induction R with
  | nil => exact List.nodup_nil
  | cons p R ih =>
    rw [List.map_cons, List.nodup_cons] at h
    rw [List.nodup_cons]
    exact ⟨fun z => h.1 (List.mem_map_of_mem z), ih h.2⟩
theorem IsStr.uniq {g : Nat → Option Col} {R S : Strp} (h : IsStr g R) (k : IsStr g S) : R = S := by
  have pm : R.Perm S := (List.perm_ext_iff_of_nodup (nodup_of_snd h.nd) (nodup_of_snd k.nd)).mpr fun p => ⟨h.sub k, k.sub h⟩
  exact List.Perm.eq_of_pairwise (fun a b _ _ x y => by omega) h.so k.so pm
/-- pairs tell a ground: whose cells are apart -/
structure GrdOf (g : Nat → Option Col) (L : Strp) : Prop where
  lt : ∀ p ∈ L, p.1 < 2 ^ 64
  on : ∀ p ∈ L, ∀ i, i < 64 → p.1.testBit i = true → g i = some p.2
  has : ∀ i c, i < 64 → g i = some c → ∃ p ∈ L, p.2 = c ∧ p.1.testBit i = true
theorem IsStr.grd {g : Nat → Option Col} {R : Strp} (h : IsStr g R) : GrdOf g R := by
  refine ⟨fun p hp => (h.ok p hp).1, fun p hp i hi b => ((h.ok p hp).2.2 i hi).mp b, fun i c hi e => ?_⟩
  obtain ⟨p, hp, ec⟩ := List.mem_map.mp (h.all i c hi e)
  exact ⟨p, hp, ec, ((h.ok p hp).2.2 i hi).mpr (by rw [e, ec])⟩
/-! ### the pairs put together by columns -/
noncomputable abbrev Grp := List (Col × Nat)
noncomputable def gAt (D : Grp) (c : Col) : Nat := ((D.find? fun t => decide (t.1 = c)).map (·.2)).getD 0
noncomputable def gPut (D : Grp) (c : Col) (m : Nat) : Grp := if (D.any fun t => decide (t.1 = c)) = true then D.map (fun t => if t.1 = c then (t.1, m) else t) else D ++ [(c, m)]
noncomputable def grp (L : Strp) : Grp := L.foldl (fun D p => if p.1 = 0 then D else gPut D p.2 (gAt D p.2 ||| p.1)) []
theorem grp_snoc {L : Strp} {i : Nat} {p : Nat × Col} (h : L[i]? = some p) : grp (L.take (i + 1)) = if p.1 = 0 then grp (L.take i) else gPut (grp (L.take i)) p.2 (gAt (grp (L.take i)) p.2 ||| p.1) := by
  unfold grp
  rw [List.take_add_one, h, Option.toList_some, List.foldl_append]
  rfl
theorem gAt_out {D : Grp} {c : Col} (h : c ∉ D.map (·.1)) : gAt D c = 0 := by
  unfold gAt
  rw [List.find?_eq_none.mpr fun t ht z => h (List.mem_map.mpr ⟨t, ht, of_decide_eq_true z⟩)]
  rfl
theorem gAt_of {D : Grp} (nd : (D.map (·.1)).Nodup) {t : Col × Nat} (h : t ∈ D) : gAt D t.1 = t.2 := by
  induction D with
  | nil => cases h
  | cons u D ih =>
    rw [List.map_cons, List.nodup_cons] at nd
    rcases List.mem_cons.mp h with e | h
    · subst e
      simp [gAt, List.find?_cons]
    · have ne : ¬ u.1 = t.1 := fun z => nd.1 (by rw [z]; exact List.mem_map_of_mem h)
      have := ih nd.2 h
      simpa [gAt, List.find?_cons, ne] using this
theorem gAny {D : Grp} {c : Col} : (D.any fun t => decide (t.1 = c)) = true ↔ c ∈ D.map (·.1) := by
  rw [List.any_eq_true, List.mem_map]
  constructor
  · rintro ⟨p, hp, h⟩; exact ⟨p, hp, of_decide_eq_true h⟩
  · rintro ⟨p, hp, h⟩; exact ⟨p, hp, decide_eq_true h⟩
theorem gPut_names (D : Grp) (c : Col) (m : Nat) : (gPut D c m).map (·.1) = if c ∈ D.map (·.1) then D.map (·.1) else D.map (·.1) ++ [c] := by
  unfold gPut
  by_cases h : c ∈ D.map (·.1)
  · rw [if_pos (gAny.mpr h), if_pos h, List.map_map]
    refine List.map_congr_left fun t _ => ?_
    show (if t.1 = c then (t.1, m) else t).1 = t.1
    split <;> rfl
  · rw [if_neg (fun z => h (gAny.mp z)), if_neg h, List.map_append]
    rfl
theorem gPut_mem {D : Grp} {c : Col} {m : Nat} {t : Col × Nat} (h : t ∈ gPut D c m) : t = (c, m) ∨ (t ∈ D ∧ t.1 ≠ c) := by
  unfold gPut at h
  split at h
  · obtain ⟨u, hu, rfl⟩ := List.mem_map.mp h
    by_cases e : u.1 = c
    · rw [if_pos e, e]; exact .inl rfl
    · rw [if_neg e]; exact .inr ⟨hu, e⟩
  · rename_i z
    rcases List.mem_append.mp h with a | a
    · exact .inr ⟨a, fun e => z (gAny.mpr (by rw [← e]; exact List.mem_map_of_mem a))⟩
    · exact .inl (List.mem_singleton.mp a)
/-- what the dict holds behind some pairs -/
structure GrpOk (L : Strp) (D : Grp) : Prop where
  nd : (D.map (·.1)).Nodup
  ok : ∀ t ∈ D, t.2 < 2 ^ 64 ∧ t.2 ≠ 0 ∧ ∀ i, t.2.testBit i = true ↔ ∃ p ∈ L, p.2 = t.1 ∧ p.1.testBit i = true
  all : ∀ p ∈ L, p.1 ≠ 0 → p.2 ∈ D.map (·.1)
  sub : ∀ c ∈ D.map (·.1), c ∈ L.map (·.2)
theorem GrpOk.nil : GrpOk [] [] := ⟨List.nodup_nil, fun _ h => (nomatch h), fun _ h => (nomatch h), fun _ h => (nomatch h)⟩
theorem GrpOk.step {L : Strp} {D : Grp} (h : GrpOk L D) {p : Nat × Col} (hp : p.1 < 2 ^ 64) : GrpOk (L ++ [p]) (if p.1 = 0 then D else gPut D p.2 (gAt D p.2 ||| p.1)) := by
  by_cases z : p.1 = 0
  · rw [if_pos z]
    refine ⟨h.nd, fun t ht => ?_, fun q hq q0 => ?_, fun c hc => ?_⟩
    · obtain ⟨a, b, c⟩ := h.ok t ht
      refine ⟨a, b, fun i => ?_⟩
      rw [c i]
      constructor
      · rintro ⟨q, hq, e⟩; exact ⟨q, List.mem_append_left _ hq, e⟩
      · rintro ⟨q, hq, e1, e2⟩
        rcases List.mem_append.mp hq with w | w
        · exact ⟨q, w, e1, e2⟩
        · rw [List.mem_singleton.mp w, z] at e2
          simp at e2
    · rcases List.mem_append.mp hq with w | w
      · exact h.all q w q0
      · rw [List.mem_singleton.mp w] at q0
        exact absurd z q0
    · rw [List.map_append]; exact List.mem_append_left _ (h.sub c hc)
  · rw [if_neg z]
    have old : ∀ i, (gAt D p.2).testBit i = true ↔ ∃ q ∈ L, q.2 = p.2 ∧ q.1.testBit i = true := by
      intro i
      by_cases hc : p.2 ∈ D.map (·.1)
      · obtain ⟨t, ht, e⟩ := List.mem_map.mp hc
        have := gAt_of h.nd ht
        rw [← e, this]
        exact (h.ok t ht).2.2 i
      · rw [gAt_out hc]
        simp only [Nat.zero_testBit, Bool.false_eq_true, false_iff]
        rintro ⟨q, hq, e1, e2⟩
        apply hc
        rw [← e1]
        refine h.all q hq fun w => ?_
        rw [w] at e2
        simp at e2
    have lt : gAt D p.2 < 2 ^ 64 := by
      by_cases hc : p.2 ∈ D.map (·.1)
      · obtain ⟨t, ht, e⟩ := List.mem_map.mp hc
        rw [← e, gAt_of h.nd ht]
        exact (h.ok t ht).1
      · rw [gAt_out hc]; decide
    refine ⟨?_, fun t ht => ?_, fun q hq q0 => ?_, fun c hc => ?_⟩
    · rw [gPut_names]
      split
      · exact h.nd
      · rename_i w
        rw [List.nodup_append]
        exact ⟨h.nd, by simp, fun a ha b hb e => w (by rw [List.mem_singleton] at hb; rw [← hb, ← e]; exact ha)⟩
    · rcases gPut_mem ht with e | ⟨hD, ne⟩
      · subst e
        refine ⟨Nat.or_lt_two_pow lt hp, fun w => z (by have := Nat.right_le_or (n := gAt D p.2) (m := p.1); omega), fun i => ?_⟩
        show (gAt D p.2 ||| p.1).testBit i = true ↔ _
        rw [Nat.testBit_or, Bool.or_eq_true, old i]
        constructor
        · rintro (⟨q, hq, e⟩ | e)
          · exact ⟨q, List.mem_append_left _ hq, e⟩
          · exact ⟨p, by simp, rfl, e⟩
        · rintro ⟨q, hq, e1, e2⟩
          rcases List.mem_append.mp hq with w | w
          · exact .inl ⟨q, w, e1, e2⟩
          · rw [List.mem_singleton.mp w] at e2; exact .inr e2
      · obtain ⟨a, b, c⟩ := h.ok t hD
        refine ⟨a, b, fun i => ?_⟩
        rw [c i]
        constructor
        · rintro ⟨q, hq, e⟩; exact ⟨q, List.mem_append_left _ hq, e⟩
        · rintro ⟨q, hq, e1, e2⟩
          rcases List.mem_append.mp hq with w | w
          · exact ⟨q, w, e1, e2⟩
          · rw [List.mem_singleton.mp w] at e1; exact absurd e1.symm ne
    · rw [gPut_names]
      have key : q.2 ∈ D.map (·.1) ∨ q.2 = p.2 := by
        rcases List.mem_append.mp hq with w | w
        · exact .inl (h.all q w q0)
        · rw [List.mem_singleton.mp w]; exact .inr rfl
      split
      · rename_i w
        rcases key with k | k
        · exact k
        · rw [k]; exact w
      · rcases key with k | k
        · exact List.mem_append_left _ k
        · rw [k]; simp
    · rw [gPut_names] at hc
      rw [List.map_append]
      split at hc
      · exact List.mem_append_left _ (h.sub c hc)
      · rcases List.mem_append.mp hc with w | w
        · exact List.mem_append_left _ (h.sub c w)
        · rw [List.mem_singleton.mp w]; simp
theorem grp_ok {L : Strp} (h : ∀ p ∈ L, p.1 < 2 ^ 64) : ∀ i, GrpOk (L.take i) (grp (L.take i))
  | 0 => GrpOk.nil
  | i + 1 => by
    have ih := grp_ok h i
    cases e : L[i]? with
    | none =>
      have hl : L.length ≤ i := List.getElem?_eq_none_iff.mp e
      rw [List.take_of_length_le (by omega)]
      rw [List.take_of_length_le hl] at ih
      exact ih
    | some p =>
      rw [grp_snoc e, List.take_add_one, e, Option.toList_some]
      exact ih.step (h p (List.mem_of_getElem? e))
/-- sorted by their lowest cells, they are the strips -/
theorem grp_strips {g : Nat → Option Col} {L : Strp} {D : Grp} (hg : GrdOf g L) (hD : GrpOk L D) {R : Strp} (pm : R.Perm (D.map fun t => (t.2, t.1))) (so : R.Pairwise fun p q => lowN p.1 ≤ lowN q.1) : IsStr g R := by
  have mem : ∀ p, p ∈ R ↔ (p.2, p.1) ∈ D := fun p => by
    rw [pm.mem_iff, List.mem_map]
    constructor
    · rintro ⟨t, ht, rfl⟩; exact ht
    · intro h; exact ⟨_, h, rfl⟩
  have nd : (R.map (·.2)).Nodup := by
    have p2 : (R.map (·.2)).Perm (D.map (·.1)) := by
      have := pm.map (·.2)
      rwa [List.map_map] at this
    exact p2.nodup_iff.mpr hD.nd
  have ok : ∀ p ∈ R, p.1 < 2 ^ 64 ∧ p.1 ≠ 0 ∧ ∀ i, i < 64 → (p.1.testBit i = true ↔ g i = some p.2) := by
    intro p hp
    obtain ⟨a, b, c⟩ := hD.ok _ ((mem p).mp hp)
    refine ⟨a, b, fun i hi => ?_⟩
    rw [c i]
    constructor
    · rintro ⟨q, hq, e1, e2⟩
      rw [← show q.2 = p.2 from e1]
      exact hg.on q hq i hi e2
    · intro e
      obtain ⟨q, hq, e1, e2⟩ := hg.has i _ hi e
      exact ⟨q, hq, e1, e2⟩
  refine ⟨nd, ok, fun i c hi e => ?_, ?_⟩
  · obtain ⟨q, hq, e1, e2⟩ := hg.has i c hi e
    have hc := hD.all q hq (fun w => by rw [w] at e2; simp at e2)
    obtain ⟨t, ht, e3⟩ := List.mem_map.mp hc
    exact List.mem_map.mpr ⟨(t.2, t.1), (mem _).mpr ht, e3.trans e1⟩
  · have nR := nodup_of_snd nd
    have both := List.pairwise_and_iff.mpr ⟨so, nR⟩
    refine List.Pairwise.imp_of_mem (fun {p q} hp hq ⟨le, ne⟩ => ?_) both
    obtain ⟨p1, p0, pb⟩ := ok p hp
    obtain ⟨q1, q0, qb⟩ := ok q hq
    have b1 := (low_spec p1 p0).1
    have b2 := (low_spec q1 q0).1
    have l1 : lowN p.1 < 64 := low_lt p1 (by decide) p0
    rcases Nat.lt_or_eq_of_le le with w | w
    · exact w
    · exfalso
      have e1 := (pb _ l1).mp b1
      rw [← w] at b2
      have e2 := (qb _ l1).mp b2
      rw [e1] at e2
      have ec : p.2 = q.2 := Option.some.inj e2
      apply ne
      refine Prod.ext (bits_eq p1 q1 fun i hi => by rw [pb i hi, qb i hi, ec]) ec
end L2

namespace L2
open PySem PySem.Spec PyProof.Rows
open LM (lowN low_spec low_lt)
/-- cells and their column, as they lie -/
noncomputable def PairE (K : PySem.W.Frag) (H : Hp) (v : V) (p : Nat × Col) : Prop := ∃ r b, v = .ref r ∧ SqT K H r [.int (p.1 : Nat), .ref b] ∧ ColV K H b p.2
theorem PairE.tk {K : PySem.W.Frag} {H H' : Hp} {v : V} {p : Nat × Col} (t : TK H H') (h : PairE K H v p) : PairE K H' v p := by
  obtain ⟨r, b, e, h1, h2⟩ := h
  exact ⟨r, b, e, t.sq h1, h2.tk t⟩
noncomputable def StrT (K : PySem.W.Frag) (H : Hp) (a : Addr) (R : Strp) : Prop := ∃ vs, SqT K H a vs ∧ Paired (PairE K H) vs R
theorem StrT.tk {K : PySem.W.Frag} {H H' : Hp} {a : Addr} {R : Strp} (t : TK H H') (h : StrT K H a R) : StrT K H' a R := by
  obtain ⟨vs, h1, h2⟩ := h
  exact ⟨vs, t.sq h1, Paired.imp (fun _ _ z => z.tk t) h2⟩
/-- the table of the program's dict and what it stands for -/
noncomputable def TGr (T : CT) (D : Grp) : Prop := Paired (fun (t : Col × Addr × V) (d : Col × Nat) => t.1 = d.1 ∧ t.2.2 = .int (d.2 : Nat)) T D
theorem tgr_at {c : Col} : ∀ {T : CT} {D : Grp}, TGr T D → (atT T c).getD (.int 0) = .int (gAt D c : Nat)
  | _, _, .nil => rfl
  | _, _, @Paired.cons _ _ _ t d _ _ a b => by
    have ih := tgr_at (c := c) b
    by_cases h : t.1 = c
    · have h' : d.1 = c := a.1.symm.trans h
      simp [atT, gAt, List.find?_cons, h, h', a.2]
    · have h' : ¬ d.1 = c := fun z => h (a.1.trans z)
      simpa [atT, gAt, List.find?_cons, h, h'] using ih
theorem tgr_any {c : Col} : ∀ {T : CT} {D : Grp}, TGr T D → (T.any fun t => decide (t.1 = c)) = D.any fun t => decide (t.1 = c)
  | _, _, .nil => rfl
  | _, _, @Paired.cons _ _ _ t d _ _ a b => by rw [List.any_cons, List.any_cons, tgr_any b, a.1]
theorem tgr_map {c : Col} {m : Nat} : ∀ {T : CT} {D : Grp}, TGr T D → TGr (T.map fun t => if t.1 = c then (t.1, t.2.1, .int (m : Nat)) else t) (D.map fun t => if t.1 = c then (t.1, m) else t)
  | _, _, .nil => .nil
  | _, _, @Paired.cons _ _ _ t d _ _ a b => by
    rw [List.map_cons, List.map_cons]
    refine .cons ?_ (tgr_map b)
    by_cases h : t.1 = c
    · rw [if_pos h, if_pos (a.1.symm.trans h)]; exact ⟨a.1, rfl⟩
    · rw [if_neg h, if_neg (fun z => h (a.1.trans z))]; exact a
theorem tgr_put {c : Col} {b : Addr} {m : Nat} {T : CT} {D : Grp} (h : TGr T D) : TGr (putT T c b (.int (m : Nat))) (gPut D c m) := by
  unfold putT gPut
  rw [tgr_any h]
  split
  · exact tgr_map h
  · exact Paired.app h (.cons ⟨rfl, rfl⟩ .nil)
theorem putT_keys {T : CT} {c : Col} {b : Addr} {v : V} {P : Col × Addr × V → Prop} (hT : ∀ t ∈ T, P t) (hn : P (c, b, v)) (hs : ∀ t, P t → ∀ u, P (t.1, t.2.1, u)) : ∀ t ∈ putT T c b v, P t := by
  intro t ht
  unfold putT at ht
  split at ht
  · obtain ⟨u, hu, rfl⟩ := List.mem_map.mp ht
    split
    · exact hs u (hT u hu) v
    · exact hT u hu
  · rcases List.mem_append.mp ht with a | a
    · exact hT t a
    · rw [List.mem_singleton.mp a]; exact hn
theorem tgr_find {T : CT} {D : Grp} (h : TGr T D) (nd : (D.map (·.1)).Nodup) {i : Nat} {t : Col × Addr × V} (ht : T[i]? = some t) : ∃ d, D[i]? = some d ∧ t.1 = d.1 ∧ atT T t.1 = some (.int (d.2 : Nat)) := by
  obtain ⟨d, hd, e1, e2⟩ := paired_at h ht
  refine ⟨d, hd, e1, ?_⟩
  have a := tgr_at (c := t.1) h
  have g := gAt_of nd (List.mem_of_getElem? hd)
  rw [← e1] at g
  rw [g] at a
  cases e : atT T t.1 with
  | some v => rw [e] at a; exact congrArg some a
  | none =>
    exfalso
    have m : t ∈ T := List.mem_of_getElem? ht
    have z : T.find? (fun u => decide (u.1 = t.1)) = none := by
      unfold atT at e
      cases w : T.find? fun u => decide (u.1 = t.1) with
      | none => rfl
      | some u => rw [w] at e; cases e
    have := List.find?_eq_none.mp z t m
    simp at this
/-- sorted by lowest cells -/
theorem srt_strips {K : PySem.W.Frag} {H : Hp} {xs ys : List V} {L : Strp} (pr : Paired (PairE K H) xs L) (h : SrtK (L.map fun p => ((lowN p.1 : Nat) : Int)) xs ys) : ∃ R : Strp, Paired (PairE K H) ys R ∧ R.Perm L ∧ R.Pairwise fun p q => lowN p.1 ≤ lowN q.1 := by
  obtain ⟨ps, hp, rfl, ho⟩ := h
  have z : Paired (fun (p : Nat × Col) (q : Int × V) => q.1 = ((lowN p.1 : Nat) : Int) ∧ PairE K H q.2 p) L ((L.map fun p => ((lowN p.1 : Nat) : Int)).zip xs) := by
    clear hp ho
    induction pr with
    | nil => exact .nil
    | cons a _ ih => exact .cons ⟨rfl, a⟩ ih
  obtain ⟨R, h1, h2⟩ := paired_perm hp.symm z
  refine ⟨R, ?_, h1.symm, ?_⟩
  · clear hp ho h1 z
    induction h2 with
    | nil => exact .nil
    | cons a _ ih => exact .cons a.2 ih
  · clear hp h1 z
    induction h2 with
    | nil => exact .nil
    | @cons p q l2 l1 a r ih =>
      rw [List.map_cons, List.pairwise_cons] at ho
      rw [List.pairwise_cons]
      refine ⟨fun p' hp' => ?_, ih ho.2⟩
      have key : ∀ {l2 : Strp} {l1 : List (Int × V)}, Paired (fun (p : Nat × Col) (q : Int × V) => q.1 = ((lowN p.1 : Nat) : Int) ∧ PairE K H q.2 p) l2 l1 → ∀ p' ∈ l2, ∃ q' ∈ l1, q'.1 = ((lowN p'.1 : Nat) : Int) := by
        intro l2 l1 w
        induction w with
        | nil => intro p' h; cases h
        | cons x _ ih2 =>
          intro p' h
          rcases List.mem_cons.mp h with e | e
          · subst e; exact ⟨_, List.mem_cons_self .., x.1⟩
          · obtain ⟨q', h1, h2⟩ := ih2 p' e
            exact ⟨q', List.mem_cons_of_mem _ h1, h2⟩
      obtain ⟨q', hq', e⟩ := key r p' hp'
      have := ho.1 q'.1 (List.mem_map_of_mem hq')
      rw [a.1, e] at this
      omega
end L2
namespace L2
open PySem PySem.Spec PyProof.Rows
section
variable {X : Cx} {o i e f value : Expr} {td ty tv tx : TE} {pos pos' apos cpos : Pos} {P : Program} {w : World} {K : PySem.W.Frag}
theorem pe_cgetK (h1 : X.prog = P) (h2 : X.w = w) (h3 : X.K = K) (hu : X.A.units + 64 < cLine) (ho : PE X o td) (hi : PE X i ty) (hs : NoSl i) : PE X (.Subscript o i pos) (tCGet P w K td ty) := by
  subst h1 h2 h3
  exact pe_cget hu ho hi hs
end
end L2
namespace L2
open PySem PySem.Spec PyProof.Rows
theorem grd_cut {g : Nat → Option Col} {R : Strp} (h : IsStr g R) (m : Nat) : GrdOf (fun i => if m.testBit i = true then g i else none) (R.map fun p => (p.1 &&& m, p.2)) := by
  refine ⟨fun p hp => ?_, fun p hp i hi b => ?_, fun i c hi e => ?_⟩
  · obtain ⟨q, hq, rfl⟩ := List.mem_map.mp hp
    exact Nat.lt_of_le_of_lt Nat.and_le_left (h.ok q hq).1
  · obtain ⟨q, hq, rfl⟩ := List.mem_map.mp hp
    have b' : (q.1 &&& m).testBit i = true := b
    rw [Nat.testBit_and, Bool.and_eq_true] at b'
    show (if m.testBit i = true then g i else none) = _
    rw [if_pos b'.2]
    exact ((h.ok q hq).2.2 i hi).mp b'.1
  · by_cases z : m.testBit i = true
    · have e' : g i = some c := by
        have : (if m.testBit i = true then g i else none) = some c := e
        rwa [if_pos z] at this
      obtain ⟨q, hq, e1, e2⟩ := h.grd.has i c hi e'
      refine ⟨_, List.mem_map.mpr ⟨q, hq, rfl⟩, e1, ?_⟩
      show (q.1 &&& m).testBit i = true
      rw [Nat.testBit_and, e2, z]
      rfl
    · have : (if m.testBit i = true then g i else none) = some c := e
      rw [if_neg z] at this
      cases this
theorem grd_two {g1 g2 : Nat → Option Col} {R S : Strp} (h : GrdOf g1 R) (k : GrdOf g2 S) (ap : ∀ i, i < 64 → g1 i = none ∨ g2 i = none) : GrdOf (fun i => (g1 i).or (g2 i)) (R ++ S) := by
  refine ⟨fun p hp => ?_, fun p hp i hi b => ?_, fun i c hi e => ?_⟩
  · rcases List.mem_append.mp hp with z | z
    · exact h.lt p z
    · exact k.lt p z
  · show (g1 i).or (g2 i) = some p.2
    rcases List.mem_append.mp hp with z | z
    · rw [h.on p z i hi b]; rfl
    · have e := k.on p z i hi b
      rcases ap i hi with w | w
      · rw [w, e]; rfl
      · rw [e] at w; cases w
  · have e' : (g1 i).or (g2 i) = some c := e
    cases w : g1 i with
    | some c' =>
      rw [w] at e'
      cases e'
      obtain ⟨p, hp, x⟩ := h.has i c hi w
      exact ⟨p, List.mem_append_left _ hp, x⟩
    | none =>
      rw [w] at e'
      obtain ⟨p, hp, x⟩ := k.has i c hi e'
      exact ⟨p, List.mem_append_right _ hp, x⟩
theorem IsStr.at {g : Nat → Option Col} {R : Strp} (h : IsStr g R) {i : Nat} (hi : i < 64) {p : Nat × Col} (hp : p ∈ R) : p.1.testBit i = decide (g i = some p.2) := by
  have := (h.ok p hp).2.2 i hi
  by_cases e : g i = some p.2
  · rw [decide_eq_true e]; exact this.mpr e
  · rw [decide_eq_false e]
    cases b : p.1.testBit i with
    | false => rfl
    | true => exact absurd (this.mp b) e
noncomputable def strD (R : Strp) : PyData := .tuple (R.map fun p => .tuple [.int (p.1 : Nat), colD p.2])
theorem rowD_isD {K : PySem.W.Frag} {H : Hp} : ∀ (r : List Key), IsDs K H (r.map keyD) (r.map kV)
  | [] => .nil
  | k :: r => by
    refine .cons ?_ (rowD_isD r)
    cases k with
    | inl i => exact .int i
    | inr x => exact .str x
theorem ColV.isD {K : PySem.W.Frag} {H : Hp} {b : Addr} {c : Col} (h : ColV K H b c) : IsD K H (colD c) (.ref b) := by
  obtain ⟨l, xs, h1, h2⟩ := h
  refine .tup h1 ?_
  clear h1 l
  induction h2 with
  | nil => exact .nil
  | cons a _ ih =>
    obtain ⟨x, rfl, hx⟩ := a
    exact .cons (.tup hx (rowD_isD _)) ih
theorem strs_isDs {K : PySem.W.Frag} {H : Hp} : ∀ {vs : List V} {R : Strp}, Paired (PairE K H) vs R → IsDs K H (R.map fun p => .tuple [.int (p.1 : Nat), colD p.2]) vs
  | _, _, .nil => .nil
  | _, _, .cons a b => by
    obtain ⟨r, x, rfl, h1, h2⟩ := a
    exact .cons (.tup h1 (.cons (.int _) (.cons h2.isD .nil))) (strs_isDs b)
theorem StrT.isD {K : PySem.W.Frag} {H : Hp} {a : Addr} {R : Strp} (h : StrT K H a R) : IsD K H (strD R) (.ref a) := by
  obtain ⟨vs, h1, h2⟩ := h
  exact .tup h1 (strs_isDs h2)
noncomputable def LayR (R : Strp) : Prop := ∀ p ∈ R, ∀ r ∈ p.2, ∀ k ∈ r, layK k = true
theorem StrT.lay {K : PySem.W.Frag} {H : Hp} {a : Addr} {R : Strp} (h : StrT K H a R) : LayR R := by
  obtain ⟨vs, h1, h2⟩ := h
  clear h1
  induction h2 with
  | nil => intro p hp; cases hp
  | cons a _ ih =>
    intro p hp
    rcases List.mem_cons.mp hp with e | e
    · subst e
      obtain ⟨_, _, _, _, h⟩ := a
      exact h.1
    · exact ih p e
theorem lay_strD : ∀ {R : Strp}, LayR R → PyData.canLayAll0 (R.map fun p => .tuple [.int (p.1 : Nat), colD p.2]) = true
  | [], _ => rfl
  | p :: R, h => by
    have h1 := lay_col p.2 (h p (List.mem_cons_self ..))
    have h2 := lay_strD (R := R) fun q hq => h q (List.mem_cons_of_mem _ hq)
    show ((true && (PyData.canLayAll0 (p.2.map rowD) && true)) && PyData.canLayAll0 (R.map fun p => .tuple [.int (p.1 : Nat), colD p.2])) = true
    rw [h1, h2]
    rfl
theorem dep_strD (R : Strp) : (strD R).depth ≤ 5 := by
  have : ∀ (R : Strp), PyData.depthAll (R.map fun p => .tuple [.int (p.1 : Nat), colD p.2]) ≤ 4 := by
    intro R
    induction R with
    | nil => show (0 : Nat) ≤ 4; decide
    | cons p R ih =>
      have h := dep_col p.2
      have h2 : (PyData.tuple [.int (p.1 : Nat), colD p.2]).depth ≤ 4 := by
        show max 0 (max (colD p.2).depth 0) + 1 ≤ 4
        omega
      show max _ _ ≤ 4
      exact Nat.max_le.mpr ⟨h2, ih⟩
  have h := this R
  show PyData.depthAll _ + 1 ≤ 5
  omega
end L2
namespace L2
open PySem PySem.Spec PyProof.Rows
/-! ### burdens, as they lie -/
noncomputable def BurE (K : PySem.W.Frag) (H : Hp) (v : V) (r : List Key) : Prop := (∀ k ∈ r, layK k = true) ∧ ∃ a, v = .ref a ∧ SqT K H a (r.map kV)
theorem BurE.tk {K : PySem.W.Frag} {H H' : Hp} {v : V} {r : List Key} (t : TK H H') (h : BurE K H v r) : BurE K H' v r := by
  obtain ⟨l, a, e, z⟩ := h
  exact ⟨l, a, e, t.sq z⟩
theorem ColV.of {K : PySem.W.Frag} {H : Hp} {b : Addr} {xs : List V} {c : Col} (h : SqT K H b xs) (p : Paired (BurE K H) xs c) : ColV K H b c := by
  refine ⟨?_, xs, h, Paired.imp (fun _ _ z => z.2) p⟩
  clear h
  induction p with
  | nil => intro r hr; cases hr
  | cons a _ ih =>
    intro r hr
    rcases List.mem_cons.mp hr with e | e
    · subst e; exact a.1
    · exact ih r e
/-- a number of a stream, at a place -/
theorem at_nums {xs : List Int} {i : Int} (h0 : 0 ≤ i) (h1 : i < xs.length) {M : Int} (hb : ∀ x ∈ xs, 0 ≤ x ∧ x < M) : ∃ x, atI (xs.map V.int) i = some (.int x) ∧ 0 ≤ x ∧ x < M := by
  obtain ⟨n, rfl⟩ : ∃ n : Nat, i = n := ⟨i.toNat, by omega⟩
  have hn : n < xs.length := by omega
  exact ⟨xs[n], atI_nat (by simp [hn]), hb _ (List.getElem_mem hn)⟩
theorem at_any {α : Type} {xs : List α} {i : Int} (h0 : 0 ≤ i) (h1 : i < xs.length) : ∃ x, x ∈ xs ∧ atI xs i = some x := by
  obtain ⟨n, rfl⟩ : ∃ n : Nat, i = n := ⟨i.toNat, by omega⟩
  have hn : n < xs.length := by omega
  exact ⟨xs[n], List.getElem_mem hn, atI_nat (by simp [hn])⟩
noncomputable def bitI (b : Bool) (x y : Int) : Int := if b = true then y else x
theorem at_bitI (b : Bool) (x y : Int) : atI [V.int x, V.int y] (if b = true then 1 else 0) = some (.int (bitI b x y)) := by
  cases b
  · exact atI_nat (j := 0) rfl
  · exact atI_nat (j := 1) rfl
theorem allL_nil : AllL (Str.ofString "") := by
  intro c hc
  have : (Str.ofString "").cps = #[] := by decide +kernel
  rw [this] at hc
  simp at hc
end L2
namespace L2
open PySem PySem.Spec PyProof.Rows
open LM (lowN low_spec low_lt lowN_of)
/-! ### the strips of a ground, cell by cell -/
noncomputable def msk (g : Nat → Option Col) : Nat → Col → Nat
  | 0, _ => 0
  | i + 1, c => if g i = some c then msk g i c + 2 ^ i else msk g i c
noncomputable def dcols (g : Nat → Option Col) : Nat → List Col
  | 0 => []
  | i + 1 => match g i with
    | none => dcols g i
    | some c => if c ∈ dcols g i then dcols g i else dcols g i ++ [c]
theorem msk_lt (g : Nat → Option Col) (c : Col) : ∀ i, msk g i c < 2 ^ i
  | 0 => by show (0 : Nat) < 1; decide
  | i + 1 => by
    have := msk_lt g c i
    rw [Nat.pow_succ]
    show (if g i = some c then msk g i c + 2 ^ i else msk g i c) < _
    split <;> omega
theorem msk_bit (g : Nat → Option Col) (c : Col) (t : Nat) : ∀ i, (msk g i c).testBit t = true ↔ t < i ∧ g t = some c
  | 0 => by
    show (0 : Nat).testBit t = true ↔ _
    simp
  | i + 1 => by
    have ih := msk_bit g c t i
    have lt := msk_lt g c i
    show (if g i = some c then msk g i c + 2 ^ i else msk g i c).testBit t = true ↔ _
    split
    · rename_i h
      rw [Nat.add_comm]
      rcases Nat.lt_trichotomy t i with z | z | z
      · rw [Nat.testBit_two_pow_add_gt z, ih]
        exact ⟨fun w => ⟨by omega, w.2⟩, fun w => ⟨z, w.2⟩⟩
      · subst z
        rw [Nat.testBit_two_pow_add_eq, Nat.testBit_lt_two_pow lt]
        exact ⟨fun _ => ⟨by omega, h⟩, fun _ => rfl⟩
      · rw [Nat.testBit_lt_two_pow (show 2 ^ i + msk g i c < 2 ^ t from Nat.lt_of_lt_of_le (by rw [Nat.pow_succ]; omega) (Nat.pow_le_pow_right (show 2 > 0 by decide) (show i + 1 ≤ t by omega)))]
        exact ⟨fun w => absurd w (by decide), fun w => by omega⟩
    · rename_i h
      rw [ih]
      constructor
      · rintro ⟨a, b⟩; exact ⟨by omega, b⟩
      · rintro ⟨a, b⟩
        refine ⟨Decidable.byContradiction fun z => h ?_, b⟩
        have : t = i := by omega
        rw [← this]; exact b
theorem dcols_mem (g : Nat → Option Col) (c : Col) : ∀ i, c ∈ dcols g i ↔ ∃ t, t < i ∧ g t = some c
  | 0 => by
    show c ∈ [] ↔ _
    simp
  | i + 1 => by
    have ih := dcols_mem g c i
    have ext : (∃ t, t < i + 1 ∧ g t = some c) ↔ c ∈ dcols g i ∨ g i = some c := by
      rw [ih]
      constructor
      · rintro ⟨t, a, b⟩
        rcases Nat.lt_or_ge t i with z | z
        · exact .inl ⟨t, z, b⟩
        · have : t = i := by omega
          rw [this] at b
          exact .inr b
      · rintro (⟨t, a, b⟩ | b)
        · exact ⟨t, by omega, b⟩
        · exact ⟨i, by omega, b⟩
    rw [ext]
    cases e : g i with
    | none =>
      have : dcols g (i + 1) = dcols g i := by show (match g i with | none => _ | some c => _) = _; rw [e]
      rw [this]
      simp
    | some c' =>
      have : dcols g (i + 1) = if c' ∈ dcols g i then dcols g i else dcols g i ++ [c'] := by show (match g i with | none => _ | some c => _) = _; rw [e]
      rw [this]
      split
      · rename_i h
        constructor
        · exact .inl
        · rintro (z | z)
          · exact z
          · cases z; exact h
      · rw [List.mem_append, List.mem_singleton]
        constructor
        · rintro (z | z)
          · exact .inl z
          · exact .inr (by rw [z])
        · rintro (z | z)
          · exact .inl z
          · cases z; exact .inr rfl
theorem dcols_none {g : Nat → Option Col} {i : Nat} (e : g i = none) : dcols g (i + 1) = dcols g i := by show (match g i with | none => _ | some c => _) = _; rw [e]
theorem dcols_in {g : Nat → Option Col} {i : Nat} {c : Col} (e : g i = some c) (h : c ∈ dcols g i) : dcols g (i + 1) = dcols g i := by
  show (match g i with | none => _ | some c => _) = _
  rw [e]
  exact if_pos h
theorem dcols_new {g : Nat → Option Col} {i : Nat} {c : Col} (e : g i = some c) (h : ¬ c ∈ dcols g i) : dcols g (i + 1) = dcols g i ++ [c] := by
  show (match g i with | none => _ | some c => _) = _
  rw [e]
  exact if_neg h
theorem dcols_nd (g : Nat → Option Col) : ∀ i, (dcols g i).Nodup
  | 0 => List.nodup_nil
  | i + 1 => by
    have ih := dcols_nd g i
    cases e : g i with
    | none => rw [dcols_none e]; exact ih
    | some c =>
      by_cases h : c ∈ dcols g i
      · rw [dcols_in e h]; exact ih
      · rw [dcols_new e h, List.nodup_append]
        exact ⟨ih, by simp, fun a ha b hb z => h (by rw [List.mem_singleton] at hb; rw [← hb, ← z]; exact ha)⟩
theorem msk_ne {g : Nat → Option Col} {i : Nat} {c : Col} (h : c ∈ dcols g i) : msk g i c ≠ 0 := fun z => by
  obtain ⟨t, a, b⟩ := (dcols_mem g c i).mp h
  have := (msk_bit g c t i).mpr ⟨a, b⟩
  rw [z] at this
  simp at this
theorem low_msk {g : Nat → Option Col} {i : Nat} {c : Col} (hi : i < 64) (h : c ∈ dcols g i) : lowN (msk g (i + 1) c) = lowN (msk g i c) := by
  have lt : msk g i c < 2 ^ 64 := Nat.lt_of_lt_of_le (msk_lt g c i) (Nat.pow_le_pow_right (by decide) (by omega))
  obtain ⟨b1, b2, _⟩ := low_spec lt (msk_ne h)
  have l1 := low_lt (msk_lt g c i) (by omega) (msk_ne h)
  refine lowN_of (by omega) ((msk_bit g c _ (i + 1)).mpr ⟨by omega, ((msk_bit g c _ i).mp b1).2⟩) fun j hj => ?_
  cases e : (msk g (i + 1) c).testBit j with
  | false => rfl
  | true =>
    have := (msk_bit g c j i).mpr ⟨by omega, ((msk_bit g c j (i + 1)).mp e).2⟩
    rw [b2 j hj] at this
    cases this
theorem low_new {g : Nat → Option Col} {i : Nat} {c : Col} (hi : i < 64) (e : g i = some c) (h : ¬ c ∈ dcols g i) : lowN (msk g (i + 1) c) = i := by
  refine lowN_of hi ((msk_bit g c _ (i + 1)).mpr ⟨by omega, e⟩) fun j hj => ?_
  cases w : (msk g (i + 1) c).testBit j with
  | false => rfl
  | true => exact absurd ((dcols_mem g c i).mpr ⟨j, hj, ((msk_bit g c j (i + 1)).mp w).2⟩) h
theorem dcols_so (g : Nat → Option Col) : ∀ i, i ≤ 64 → (dcols g i).Pairwise fun c d => lowN (msk g i c) < lowN (msk g i d)
  | 0, _ => List.Pairwise.nil
  | i + 1, hi => by
    have ih := dcols_so g i (by omega)
    have up : (dcols g i).Pairwise fun c d => lowN (msk g (i + 1) c) < lowN (msk g (i + 1) d) := List.Pairwise.imp_of_mem (fun {c d} hc hd z => by rw [low_msk (by omega) hc, low_msk (by omega) hd]; exact z) ih
    cases e : g i with
    | none => rw [dcols_none e]; exact up
    | some c =>
      by_cases h : c ∈ dcols g i
      · rw [dcols_in e h]; exact up
      · rw [dcols_new e h, List.pairwise_append]
        refine ⟨up, by simp, fun a ha b hb => ?_⟩
        rw [List.mem_singleton.mp hb, low_new (by omega) e h, low_msk (by omega) ha]
        exact low_lt (msk_lt g a i) (by omega) (msk_ne ha)
theorem strips_are (g : Nat → Option Col) : IsStr g ((dcols g 64).map fun c => (msk g 64 c, c)) := by
  refine ⟨?_, fun p hp => ?_, fun i c hi e => ?_, ?_⟩
  · rw [List.map_map]
    show ((dcols g 64).map id).Nodup
    rw [List.map_id]
    exact dcols_nd g 64
  · obtain ⟨c, hc, rfl⟩ := List.mem_map.mp hp
    refine ⟨msk_lt g c 64, msk_ne hc, fun i hi => ?_⟩
    rw [msk_bit]
    exact ⟨fun z => z.2, fun z => ⟨hi, z⟩⟩
  · rw [List.map_map]
    exact List.mem_map.mpr ⟨c, (dcols_mem g c 64).mpr ⟨i, hi, e⟩, rfl⟩
  · rw [List.pairwise_map]
    exact dcols_so g 64 (Nat.le_refl _)
theorem dcols_sub {g : Nat → Option Col} {C : List Col} (h : ∀ i c, g i = some c → c ∈ C) (i : Nat) : (dcols g i).length ≤ C.length :=
  List.Nodup.length_le_of_subset (dcols_nd g i) fun c hc => by
    obtain ⟨t, _, e⟩ := (dcols_mem g c i).mp hc
    exact h t c e
theorem IsStr.cols {g : Nat → Option Col} {R : Strp} (h : IsStr g R) {C : List Col} (hC : ∀ i c, g i = some c → c ∈ C) : R.length ≤ C.length ∧ ∀ p ∈ R, p.2 ∈ C := by
  have m : ∀ p ∈ R, p.2 ∈ C := fun p hp => by
    obtain ⟨p1, p0, pb⟩ := h.ok p hp
    have b1 := (low_spec p1 p0).1
    have l1 : lowN p.1 < 64 := low_lt p1 (by decide) p0
    exact hC _ _ ((pb _ l1).mp b1)
  refine ⟨?_, m⟩
  have := List.Nodup.length_le_of_subset h.nd (fun c hc => by
    obtain ⟨p, hp, e⟩ := List.mem_map.mp hc
    rw [← e]
    exact m p hp)
  rwa [List.length_map] at this
/-! ### a ground, as it lies: a dict of cells with columns -/
noncomputable def GD (K : PySem.W.Frag) (H : Hp) (kvs : List (Key × V)) (g : Nat → Option Col) : Prop := ∀ i : Nat, (valV kvs (.inl (i : Int)) = none ∧ g i = none) ∨ ∃ b c, valV kvs (.inl (i : Int)) = some (.ref b) ∧ g i = some c ∧ ColV K H b c
theorem GD.tk {K : PySem.W.Frag} {H H' : Hp} {kvs : List (Key × V)} {g : Nat → Option Col} (t : TK H H') (h : GD K H kvs g) : GD K H' kvs g := fun i => by
  rcases h i with z | ⟨b, c, e1, e2, e3⟩
  · exact .inl z
  · exact .inr ⟨b, c, e1, e2, e3.tk t⟩
theorem GD.nil {K : PySem.W.Frag} {H : Hp} : GD K H [] fun _ => none := fun _ => .inl ⟨rfl, rfl⟩
theorem GD.put {K : PySem.W.Frag} {H : Hp} {kvs : List (Key × V)} {g : Nat → Option Col} {k : Nat} {b : Addr} {c : Col} (h : GD K H kvs g) (hc : ColV K H b c) : GD K H (putK kvs (.inl (k : Int)) (.ref b)) fun i => if i = k then some c else g i := fun i => by
  rw [valV_put]
  by_cases e : i = k
  · subst e
    exact .inr ⟨b, c, if_pos rfl, if_pos rfl, hc⟩
  · have e' : ¬ (Sum.inl (i : Int) : Key) = .inl (k : Int) := fun z => e (by have := Sum.inl.inj z; omega)
    show (_ ∧ (if i = k then some c else g i) = none) ∨ ∃ b' c', _ ∧ (if i = k then some c else g i) = some c' ∧ _
    rw [if_neg e', if_neg e]
    exact h i
/-- columns, as they lie in a list -/
noncomputable def ColE (K : PySem.W.Frag) (H : Hp) (v : V) (c : Col) : Prop := ∃ b, v = .ref b ∧ ColV K H b c
theorem ColE.tk {K : PySem.W.Frag} {H H' : Hp} {v : V} {c : Col} (t : TK H H') (h : ColE K H v c) : ColE K H' v c := by
  obtain ⟨b, e, z⟩ := h
  exact ⟨b, e, z.tk t⟩
theorem paired_mem {α β : Type} {R : α → β → Prop} {as : List α} {bs : List β} (h : Paired R as bs) {a : α} (ha : a ∈ as) : ∃ b ∈ bs, R a b := by
  obtain ⟨i, hi, rfl⟩ := List.getElem_of_mem ha
  obtain ⟨b, hb, r⟩ := paired_at h (List.getElem?_eq_getElem hi)
  exact ⟨b, List.mem_of_getElem? hb, r⟩
end L2
namespace L2
open PySem PySem.Spec PyProof.Rows
end L2
namespace L2
open PySem PySem.Spec PyProof.Rows My
theorem nd_inj {D : List Col} (nd : D.Nodup) {i j : Nat} (hi : i < D.length) (hj : j < D.length) (e : D[i] = D[j]) : i = j := by
  have h := List.pairwise_iff_getElem.mp nd
  rcases Nat.lt_trichotomy i j with z | z | z
  · exact absurd e (h i j hi hj z)
  · exact z
  · exact absurd e.symm (h j i hj hi z)
theorem cols_isDs {K : PySem.W.Frag} {H : Hp} : ∀ {vs : List V} {D : List Col}, Paired (ColE K H) vs D → IsDs K H (D.map colD) vs
  | _, _, .nil => .nil
  | _, _, .cons a b => by
    obtain ⟨x, rfl, h⟩ := a
    exact .cons h.isD (cols_isDs b)
theorem cols_lay {K : PySem.W.Frag} {H : Hp} : ∀ {vs : List V} {D : List Col}, Paired (ColE K H) vs D → PyData.canLayAll0 (D.map colD) = true
  | _, _, .nil => rfl
  | _, _, @Paired.cons _ _ _ v c _ _ a b => by
    obtain ⟨x, rfl, h⟩ := a
    have h1 := lay_col c h.1
    have h2 := cols_lay b
    show ((colD c).canLay0 && _) = true
    rw [h2, Bool.and_true]
    exact h1
theorem cols_any (D : List Col) (c : Col) : ((D.map colD).any fun e => PyData.eqv e (colD c)) = decide (c ∈ D) := by
  induction D with
  | nil => rfl
  | cons d D ih =>
    rw [List.map_cons, List.any_cons, ih, col_eqv]
    by_cases h : d = c
    · subst h; simp
    · have : ¬ c = d := fun z => h z.symm
      simp [h, this]
theorem ixN_nat {n j : Nat} (h : j < n) : ixN n (j : Int) = some j := by
  unfold ixN
  rw [if_pos (by omega), if_pos (by omega), Int.toNat_natCast]
theorem msk_out {g : Nat → Option Col} {i : Nat} {c : Col} (h : ¬ c ∈ dcols g i) : msk g i c = 0 := by
  refine Nat.eq_of_testBit_eq fun t => ?_
  rw [Nat.zero_testBit]
  cases e : (msk g i c).testBit t with
  | false => rfl
  | true => exact absurd ((dcols_mem g c i).mpr ⟨t, (msk_bit g c t i).mp e⟩) h
theorem set_msk {g : Nat → Option Col} {i j : Nat} {c : Col} {D : List Col} (nd : D.Nodup) (hj : D[j]? = some c) (e : g i = some c) :
    (NV (D.map (msk g i))).set j (.int ((msk g i c : Nat) + 1 * 2 ^ ((i : Int)).toNat)) = NV (D.map (msk g (i + 1))) := by
  have lj : j < D.length := (List.getElem?_eq_some_iff.mp hj).1
  have ej : D[j] = c := (List.getElem?_eq_some_iff.mp hj).2
  refine List.ext_getElem (by simp [NV]) fun n h1 h2 => ?_
  have ln : n < D.length := by simpa [NV] using h2
  rw [List.getElem_set]
  by_cases z : j = n
  · subst z
    rw [if_pos rfl]
    simp only [NV, List.getElem_map]
    rw [ej, Int.one_mul, Int.toNat_natCast]
    show V.int _ = V.int (((if g i = some c then msk g i c + 2 ^ i else msk g i c) : Nat) : Int)
    rw [if_pos e, Int.natCast_add, Int.natCast_pow]
    rfl
  · rw [if_neg z]
    simp only [NV, List.getElem_map]
    have ne : ¬ g i = some D[n] := fun w => by
      rw [e] at w
      have : D[j] = D[n] := by rw [ej]; exact Option.some.inj w
      exact z (nd_inj nd lj ln this)
    show V.int _ = V.int (((if g i = some D[n] then msk g i D[n] + 2 ^ i else msk g i D[n]) : Nat) : Int)
    rw [if_neg ne]
end L2
namespace L2
open PySem PySem.Spec PyProof.Rows
theorem IsStr.congr {g g' : Nat → Option Col} {R : Strp} (h : IsStr g R) (e : ∀ i, i < 64 → g i = g' i) : IsStr g' R := by
  refine ⟨h.nd, fun p hp => ?_, fun i c hi w => h.all i c hi (by rw [e i hi]; exact w), h.so⟩
  obtain ⟨a, b, c⟩ := h.ok p hp
  exact ⟨a, b, fun i hi => by rw [c i hi, e i hi]⟩
theorem TK.dk {H : Hp} {D : Addr} {kvs : List (Key × V)} {o : HO} (hD : H D = some (.dK kvs)) : TK H (upd H D o) :=
  ⟨fun _ _ e => by rw [upd_ne (ne_of e hD (fun z => nomatch z))]; exact e, fun _ _ _ e => by rw [upd_ne (ne_of e hD (fun z => nomatch z))]; exact e⟩
theorem rest_bit {m i : Nat} (hm : m < 2 ^ 64) (hi : i < 64) : (2 ^ 64 - 1 - m).testBit i = !m.testBit i := by
  have e : 2 ^ 64 - 1 - m = 2 ^ 64 - (m + 1) := by omega
  rw [e, Nat.testBit_two_pow_sub_succ hm]
  simp [hi]
end L2
namespace L2
open PySem PySem.Spec PyProof.Rows
/-- a burden: its number, kind, holder, amount, until -/
noncomputable def IsBur (r : List Key) : Prop := ∃ n k x m u, r = [.inl n, .inr k, .inr x, .inl m, .inl u]
noncomputable def numR : List Key → Int
  | .inl n :: _ => n
  | _ => 0
/-- the spots that are told: unlike ones -/
noncomputable def spotN (s t : Int) (k : Nat) : Nat := ((s + (0 + (k : Int)) * t) % 64).toNat
theorem odd_inv : ∀ u : Fin 32, ∃ v : Fin 64, (2 * u.val + 1) * v.val % 64 = 1 := by decide +kernel
theorem spot_inj {s u : Int} (h0 : 0 ≤ u) (h1 : u < 32) {a b : Nat} (ha : a < 64) (hb : b < 64) (e : spotN s (2 * u + 1) a = spotN s (2 * u + 1) b) : a = b := by
  unfold spotN at e
  obtain ⟨q, hq⟩ : ∃ q, (s + (0 + (a : Int)) * (2 * u + 1)) - (s + (0 + (b : Int)) * (2 * u + 1)) = 64 * q := by
    generalize (s + (0 + (a : Int)) * (2 * u + 1)) = A at e ⊢
    generalize (s + (0 + (b : Int)) * (2 * u + 1)) = B at e ⊢
    exact ⟨A / 64 - B / 64, by omega⟩
  obtain ⟨v, hv⟩ := odd_inv ⟨u.toNat, by omega⟩
  obtain ⟨w, hw⟩ : ∃ w : Int, (2 * u + 1) * (v.val : Int) = 1 + 64 * w := by
    obtain ⟨n, rfl⟩ : ∃ n : Nat, u = n := ⟨u.toNat, by omega⟩
    simp only [Int.toNat_natCast] at hv
    refine ⟨(((2 * n + 1) * v.val / 64 : Nat) : Int), ?_⟩
    have : (2 * n + 1) * v.val = 1 + 64 * ((2 * n + 1) * v.val / 64) := by omega
    exact_mod_cast this
  have : (a : Int) - b = 64 * (q * v.val - w * ((a : Int) - b)) := by grind
  omega
theorem spots_nd {s u : Int} (h0 : 0 ≤ u) (h1 : u < 32) {n : Nat} (hn : n ≤ 64) : ((List.range n).map (spotN s (2 * u + 1))).Nodup := by
  rw [List.Nodup, List.pairwise_map]
  refine List.Pairwise.imp_of_mem (fun {a b} ha hb z w => ?_) (List.nodup_range (n := n))
  rw [List.mem_range] at ha hb
  exact z (spot_inj h0 h1 (by omega) (by omega) w)
theorem spot_lt (s t : Int) (k : Nat) : spotN s t k < 64 := by
  unfold spotN
  omega
end L2
namespace L2
open PySem PySem.Spec PyProof PyProof.Rows
/-! ### max(xs, default=d) of a list of ints -/
section
variable {prog : Program} {w : World} {A : Around} {R : Result → Shared → Prop} {I S : Addr} {fp wr : List Addr} {n : Nat} {P : Nat → Value → Prop} {St : Nat → Heap → Prop} {kw : List (Str × Value)} {bt : Nat → Nat → Bool}
noncomputable def bestO (vs : Array Value) (c : Nat) : Obj := { cls := .type "list", dict := none, data := .seq vs c, slots := #[] }
theorem mxn : (toString "max" ++ toString ".loop" : String) = "max.loop" := by decide
theorem mx_go (W : Walks prog w A.in1 I fp wr n P St) (cmp : CmpOf prog w A.in1 .Gt P bt) (out : S ∉ fp) (k : Nat) :
    ∀ {j : Nat} {s : Shared} {b : Value} {c : Nat}, j + 1 + k = n → St (j + 1) s.heap → P (argBest bt j) b → s.heap.get? S = some (bestO #[b, b] c) →
    (∀ v h' tk, P (argBest bt (n - 1)) v → (∀ a o, a ∉ wr → a ≠ S → s.heap.get? a = some o → h'.get? a = some o) → R (.ok (.ret v)) { s with heap := h', toks := tk }) →
    codeAny (model prog w) A (.builtin "max.loop" ⟨[.ref I, .none, .ref S], kw⟩) R s := by
  have outw : S ∉ wr := fun z => out (W.sub _ z)
  induction k with
  | zero =>
    intro j s b c e st pb hS fin
    have e' : j + 1 = n := e
    refine codeAny_builtin F.entry_max_loop ?_
    rw [Around.under_plainId F.plain_max_loop _]
    refine wpAny_bind (wpAny_seqItems hS rfl ?_)
    refine wpAny_bind (wpAny_tryCatch (W.done s _ _ (e' ▸ st) fun h' tk kept => ?_))
    have hS2 := kept S _ outw hS
    refine wpAny_bind ?_
    exact wpAny_updateSeq hS2 rfl (wpAny_bind (wpAny_letGo (wpAny_pure (fin b _ tk (by rw [← e']; exact pb) fun a o h1 h2 h3 => (Heap.get?_update_other _ _ (Ne.symm h2)).trans (kept a o h1 h3)))))
  | succ k ih =>
    intro j s b c e st pb hS fin
    refine codeAny_builtin F.entry_max_loop ?_
    rw [Around.under_plainId F.plain_max_loop _]
    refine wpAny_bind (wpAny_seqItems hS rfl ?_)
    refine wpAny_bind (wpAny_tryCatch (W.item (j + 1) s _ _ (by omega) st fun v h' tk pv st2 kept => ?_))
    have hS2 := kept S _ outw hS
    refine wpAny_bind (wpAny_pure ?_)
    refine wpAny_bind (wpAny_tryCatch (wpAny_holding (wpAny_bind (cmp (j + 1) (argBest bt j) v b _ _ _ pv pb (wpAny_bind (wpAny_holding (wpAny_truthy_bool (wpAny_bind (wpAny_letGo (wpAny_pure ?_))))))))))
    by_cases hb : bt (j + 1) (argBest bt j) = true
    · have eb : argBest bt (j + 1) = j + 1 := if_pos hb
      rw [hb, if_pos rfl]
      refine wpAny_bind ?_
      refine wpAny_updateSeq hS2 rfl (wpAny_bind (wpAny_letGo ?_))
      rw [mxn]
      exact wpAny_pure ⟨plainId_quiet F.plain_max_loop _, ih (by omega) (W.frame _ _ _ st2 fun a ha o q => (Heap.get?_update_other _ _ (fun z : S = a => out (z ▸ ha))).trans q) (by rw [eb]; exact pv) (Heap.get?_update_self _ hS2 rfl) fun v2 h2 t2 p2 k2 => fin v2 h2 t2 p2 fun a o z1 z2 z3 => k2 a o z1 z2 ((Heap.get?_update_other _ _ (Ne.symm z2)).trans (kept a o z1 z3))⟩
    · have eb : argBest bt (j + 1) = argBest bt j := if_neg hb
      rw [Bool.eq_false_iff.mpr hb, if_neg (by decide)]
      refine wpAny_bind (wpAny_letGo ?_)
      rw [mxn]
      exact wpAny_pure ⟨plainId_quiet F.plain_max_loop _, ih (by omega) st2 (by rw [eb]; exact pb) hS2 fun v2 h2 t2 p2 k2 => fin v2 h2 t2 p2 fun a o z1 z2 z3 => k2 a o z1 z2 (kept a o z1 z3)⟩
theorem mx_walk {x d : Value} {s : Shared} {E : Value → Shared → Prop} {Q : Value → Shared → Prop}
    (h : wpAny (model prog w) A.in1 (pyIter x) (fun it s2 => ∃ I fp wr n P St bt, it = .ref I ∧ Walks prog w A.in1 I fp wr n P St ∧ St 0 s2.heap ∧ (∀ b ∈ fp, b < s2.heap.objs.size) ∧ CmpOf prog w A.in1 .Gt P bt ∧
      (n = 0 → ∀ h' tk, (∀ b o, b ∉ wr → s2.heap.get? b = some o → h'.get? b = some o) → Q d { s2 with heap := h', toks := tk }) ∧
      (0 < n → ∀ v h' tk, P (argBest bt (n - 1)) v → (∀ b o, b ∉ wr → s2.heap.get? b = some o → h'.get? b = some o) → Q v { s2 with heap := h', toks := tk })) E s) :
    wpAny (model prog w) A (call (.builtin "max") [x] [("default", d)]) Q E s := by
  have ok : argsOk "max" ⟨[x], [("default", d)]⟩ := by unfold argsOk; kernel_rfl
  refine wpAny_call (codeAny_call_builtin F.plain_max F.entry_max ?_)
  simp only [checkBuiltinCall, F.kind_max]
  have body : wpAny (model prog w) A.in1 (Builtin.«max» ⟨[x], [("default", d)]⟩) (fun fin s' => match fin with
      | .done f => (match (Except.ok f : Result) with | .ok (.ret v) => Q v s' | .ok _ => False | .error e => E e s')
      | .again c' => c'.quiet = true ∧ codeAny (model prog w) A c' (fun r s' => match r with | .ok (.ret v) => Q v s' | .ok _ => False | .error e => E e s') s') E s := by
    refine wpAny_bind (wpAny_of_eq (show Builtin.Builtins.bindParams "max" ["key", "default"] 0 ⟨[], [("default", d)]⟩ = pure [none, some d] from rfl) (wpAny_bind (wpAny_pure (wpAny_bind (wpAny_mono h (fun it s2 q => ?_) fun _ _ e => e)))))
    obtain ⟨I, fp, wr, n, P, St, bt, rfl, W, st, lt, cmp, q0, q1⟩ := q
    refine wpAny_bind (wpAny_newObj_type ?_)
    have out : s2.heap.objs.size ∉ fp := fun z => Nat.lt_irrefl _ (lt _ z)
    have outw : s2.heap.objs.size ∉ wr := fun z => out (W.sub _ z)
    have st1 := W.frame _ _ (s2.heap.push (bestO #[] 0)) st fun b _ o e => Heap.get?_push_of_some _ e
    have hS : (s2.heap.push (bestO #[] 0)).get? s2.heap.objs.size = some (bestO #[] 0) := Heap.get?_push_size _ rfl
    rw [mxn]
    refine wpAny_pure ⟨plainId_quiet F.plain_max_loop _, codeAny_builtin F.entry_max_loop ?_⟩
    rw [Around.under_plainId F.plain_max_loop _]
    refine wpAny_bind (wpAny_seqItems hS rfl ?_)
    rcases Nat.eq_zero_or_pos n with e0 | e0
    · refine wpAny_bind (wpAny_tryCatch (W.done _ _ _ (e0 ▸ st1) fun h' tk kept => ?_))
      refine wpAny_bind (wpAny_rule ?_)
      exact wpAny_pure (q0 e0 h' tk fun b o z1 z2 => kept b o z1 (Heap.get?_push_of_some _ z2))
    · refine wpAny_bind (wpAny_tryCatch (W.item 0 _ _ _ e0 st1 fun v h' tk pv st2 kept => ?_))
      have hS2 := kept _ _ outw hS
      refine wpAny_bind (wpAny_pure (wpAny_bind ?_))
      refine wpAny_updateSeq hS2 rfl ?_
      rw [mxn]
      refine wpAny_pure ⟨plainId_quiet F.plain_max_loop _, mx_go W cmp out (n - 1) (j := 0) (b := v) (by omega) (W.frame _ _ _ st2 fun a ha o q => (Heap.get?_update_other _ _ (fun z : s2.heap.objs.size = a => out (z ▸ ha))).trans q) pv (Heap.get?_update_self _ hS2 rfl) fun v2 h2 t2 p2 k2 => q1 e0 v2 h2 t2 p2 fun a o z1 z3 => ?_⟩
      have ne : a ≠ s2.heap.objs.size := Nat.ne_of_lt (Heap.lt_size z3)
      exact k2 a o z1 ne ((Heap.get?_update_other _ _ (Ne.symm ne)).trans (kept a o z1 (Heap.get?_push_of_some _ z3)))
  cases hsig : Manifest.signature? "max" with
  | none => exact wpAny_pure body
  | some sig =>
    have ha : Bind.checkArgs "max" sig ⟨[x], [("default", d)]⟩ = pure () := by simpa only [argsOk, hsig] using ok
    simp only [ha]
    exact wpAny_pure body
end
noncomputable def tMax0 (K : PySem.W.Frag) (t : TA) (td : TE) : TE := fun σ H Q => t σ H fun xs H1 => td σ H1 fun y H2 => ∃ (p : Addr) (ns : List Int), xs = [.ref p] ∧ SqL K H2 p (ns.map V.int) ∧ (ns = [] → Q y H2) ∧ (ns ≠ [] → ∀ m, m ∈ ns → (∀ a, a ∈ ns → a ≤ m) → Q (.int m) H2)
section
variable {X : Cx} {e d : Expr} {t : TA} {td : TE} {p kp pos : Pos}
theorem pe_max0 (hc : X.calm = true) (hs : Gl X "max") (hm : X.mg "max" = none) (ha : PA X [e] t) (hd : PE X d td) (hst : starEach [e] X.env = [(false, eval e X.env)] := by rfl) :
    PE X (.Call (.Name "max" p) [e] [⟨some "default", d, kp⟩] pos) (tMax0 X.K t td) := by
  intro pins s σ H Q I h
  refine wpAny_Call_Name_kw (ld_blt I hs hm (by decide +kernel : bootBuiltins "max" = some (.builtin "max")) ?_ (by decide) (by decide))
  refine PyProof.Rows.callWith_kw (thn (ha pos pins s σ H _ I h) fun us s1 ⟨xs, H1, I1, r1, q1⟩ => ?_) (by rw [hst]; rfl) (by rw [hst]; rfl) (by rfl) (by rfl)
  refine PyProof.Rows.kws_cons (thn (hd pins s1 σ H1 _ I1 q1) fun dv s2 ⟨y, H2, I2, ry, l, ns, ex, hx, q0, q2⟩ => PyProof.Rows.kws_nil ?_)
  subst ex
  obtain ⟨u, rfl, ru⟩ := vals1 r1
  cases ru
  obtain ⟨vs, rv, pl, hz⟩ := I2.list hx
  have hi := intsAre_of rv
  obtain ⟨ys, ei⟩ := hi.allInts.items
  have hns : ns = ys.toList.map (·.1) := by rw [← hi.numsOf, ← nums_intItems, ← ei]
  have hl := pl.isList
  rw [ei] at hl
  refine mx_walk (iter_intList hl fun s3 e3 st lt hlI => ?_)
  subst e3
  refine ⟨_, _, _, _, _, _, _, rfl, Walks.list (A := X.A.in1) (I2.ok.hd hc) _ l hlI (intItems ys), st, lt, CmpOf.ints_gt (numAt ys) (fun _ _ => intItems_at), fun z h' tk hk => ?_, fun z v h' tk hP hk => ?_⟩
  · have z' : ns = [] := by
      rw [hns]
      have : ys.size = 0 := by simpa [intItems] using z
      rw [List.map_eq_nil_iff]
      exact List.length_eq_zero_iff.mp (by rw [Array.length_toList]; exact this)
    exact ⟨y, H2, I2.kept (old_kept hk), ry, q0 z'⟩
  · have z' : 0 < ys.size := by simpa [intItems] using z
    have hP' : (intItems ys)[argBest (fun i j => decide (numAt ys i > numAt ys j)) (ys.size - 1)]? = some v := by simpa [intItems] using hP
    obtain ⟨tok, rfl⟩ := intItems_at hP'
    obtain ⟨h1, h2⟩ := argBest_gt (numAt ys) (ys.size - 1)
    refine ⟨.int _, H2, I2.kept (old_kept hk), ⟨tok, rfl⟩, q2 (fun w => ?_) _ ?_ fun a ha => ?_⟩
    · rw [w] at hns
      have := congrArg List.length hns
      rw [List.length_map, Array.length_toList] at this
      exact absurd this (by simp; omega)
    · rw [hns, numAt_eq]
      exact getD_mem (by rw [List.length_map, Array.length_toList]; omega)
    · rw [hns] at ha
      obtain ⟨j, hj, rfl⟩ := mem_getD ha
      rw [List.length_map, Array.length_toList] at hj
      rw [← numAt_eq]
      exact h2 j (by omega)
end
end L2
namespace L2
open PySem PySem.Spec PyProof.Rows
noncomputable def lensR (R : Strp) : List Int := R.map fun p => ((p.2.length : Nat) : Int)
noncomputable def IsMax (l : List Int) (m : Int) : Prop := m ∈ l ∧ ∀ a, a ∈ l → a ≤ m
theorem IsMax.uniq {l : List Int} {a b : Int} (h : IsMax l a) (k : IsMax l b) : a = b := by
  have h1 := h.2 b k.1
  have h2 := k.2 a h.1
  omega
theorem ColV.len {K : PySem.W.Frag} {H : Hp} {b : Addr} {c : Col} (h : ColV K H b c) : ∃ xs, SqT K H b xs ∧ xs.length = c.length := by
  obtain ⟨_, xs, h1, h2⟩ := h
  exact ⟨xs, h1, Paired.length h2⟩
/-- the burdens of columns, each once, by number -/
structure IsBs (C : List Col) (T : Col) : Prop where
  so : T.Pairwise fun a b => numR a < numR b
  mem : ∀ r, r ∈ T ↔ ∃ c ∈ C, r ∈ c
theorem IsBs.uniq {C : List Col} {S T : Col} (h : IsBs C S) (k : IsBs C T) : S = T := by
  have nd : ∀ {T : Col}, T.Pairwise (fun a b => numR a < numR b) → T.Nodup := fun z => List.Pairwise.imp (fun {a b} w e => by rw [e] at w; omega) z
  have pm : S.Perm T := (List.perm_ext_iff_of_nodup (nd h.so) (nd k.so)).mpr fun r => by rw [h.mem, k.mem]
  exact List.Perm.eq_of_pairwise (fun a b _ _ x y => by omega) h.so k.so pm
end L2
namespace L2
open PySem PySem.Spec PyProof.Rows
/-- a dict of burdens by number, as it lies -/
noncomputable def KB (K : PySem.W.Frag) (H : Hp) (kv : Key × V) (r : List Key) : Prop := kv.1 = .inl (numR r) ∧ BurE K H kv.2 r
theorem kb_any {K : PySem.W.Frag} {H : Hp} {n : Int} : ∀ {kvs : List (Key × V)} {D : List (List Key)}, Paired (KB K H) kvs D → (kvs.any fun kv => decide (kv.1 = .inl n)) = D.any fun d => decide (numR d = n)
  | _, _, .nil => rfl
  | _, _, @Paired.cons _ _ _ kv d _ _ a b => by
    rw [List.any_cons, List.any_cons, kb_any b, a.1]
    congr 1
    by_cases h : numR d = n
    · rw [h, decide_eq_true rfl, decide_eq_true rfl]
    · rw [decide_eq_false h, decide_eq_false (fun z => h (Sum.inl.inj z))]
theorem kb_map {K : PySem.W.Frag} {H : Hp} {v : V} {r : List Key} (hv : BurE K H v r) : ∀ {kvs : List (Key × V)} {D : List (List Key)}, Paired (KB K H) kvs D → (∀ d ∈ D, numR d = numR r → d = r) → Paired (KB K H) (kvs.map fun kv => if kv.1 = .inl (numR r) then (kv.1, v) else kv) D
  | _, _, .nil, _ => .nil
  | _, _, @Paired.cons _ _ _ kv d _ _ a b, hu => by
    rw [List.map_cons]
    refine .cons ?_ (kb_map hv b fun d' hd' => hu d' (List.mem_cons_of_mem _ hd'))
    by_cases h : kv.1 = .inl (numR r)
    · rw [if_pos h]
      have e : numR d = numR r := Sum.inl.inj (a.1.symm.trans h)
      have := hu d (List.mem_cons_self ..) e
      subst this
      exact ⟨a.1, hv⟩
    · rw [if_neg h]; exact a
noncomputable def addR (D : List (List Key)) (r : List Key) : List (List Key) := if (D.any fun d => decide (numR d = numR r)) = true then D else D ++ [r]
theorem kb_put {K : PySem.W.Frag} {H : Hp} {v : V} {r : List Key} (hv : BurE K H v r) {kvs : List (Key × V)} {D : List (List Key)} (h : Paired (KB K H) kvs D) (hu : ∀ d ∈ D, numR d = numR r → d = r) : Paired (KB K H) (putK kvs (.inl (numR r)) v) (addR D r) := by
  unfold putK addR
  rw [kb_any h]
  split
  · exact kb_map hv h hu
  · exact Paired.app h (.cons ⟨rfl, hv⟩ .nil)
theorem addR_mem {D : List (List Key)} {r x : List Key} (hu : ∀ d ∈ D, numR d = numR r → d = r) : x ∈ addR D r ↔ x ∈ D ∨ x = r := by
  unfold addR
  split
  · rename_i h
    obtain ⟨d, hd, e⟩ := List.any_eq_true.mp h
    have := hu d hd (of_decide_eq_true e)
    subst this
    exact ⟨.inl, fun z => z.elim id fun w => by rw [w]; exact hd⟩
  · rw [List.mem_append, List.mem_singleton]
theorem addR_nd {D : List (List Key)} {r : List Key} (nd : (D.map numR).Nodup) : ((addR D r).map numR).Nodup := by
  unfold addR
  split
  · exact nd
  · rename_i h
    rw [List.map_append, List.nodup_append]
    refine ⟨nd, by simp, fun a ha b hb e => h ?_⟩
    rw [List.map_cons, List.map_nil, List.mem_singleton] at hb
    obtain ⟨d, hd, ed⟩ := List.mem_map.mp ha
    exact List.any_eq_true.mpr ⟨d, hd, decide_eq_true (by rw [ed, e, hb])⟩
theorem kb_val {K : PySem.W.Frag} {H : Hp} {n : Int} : ∀ {kvs : List (Key × V)} {D : List (List Key)}, Paired (KB K H) kvs D → n ∈ D.map numR → ∃ v r, valV kvs (.inl n) = some v ∧ r ∈ D ∧ numR r = n ∧ BurE K H v r
  | _, _, .nil, h => by cases h
  | _, _, @Paired.cons _ _ _ kv d _ _ a b, h => by
    by_cases z : numR d = n
    · exact ⟨kv.2, d, valV_pos (by rw [a.1, z]), List.mem_cons_self .., z, a.2⟩
    · rw [List.map_cons] at h
      rcases List.mem_cons.mp h with w | w
      · exact absurd w.symm z
      · obtain ⟨v, r, h1, h2, h3, h4⟩ := kb_val b w
        exact ⟨v, r, by rw [valV_neg (fun y => z (Sum.inl.inj (a.1.symm.trans y)))]; exact h1, List.mem_cons_of_mem _ h2, h3, h4⟩
theorem kb_keys {K : PySem.W.Frag} {H : Hp} : ∀ {kvs : List (Key × V)} {D : List (List Key)}, Paired (KB K H) kvs D → (kvs.map fun q => kV q.1) = (D.map numR).map V.int
  | _, _, .nil => rfl
  | _, _, .cons a b => by rw [List.map_cons, List.map_cons, List.map_cons, kb_keys b, a.1]; rfl
theorem nd_num {D : List (List Key)} (nd : (D.map numR).Nodup) : ∀ a ∈ D, ∀ b ∈ D, numR a = numR b → a = b := by
  induction D with
  | nil => intro a ha; cases ha
  | cons d D ih =>
    rw [List.map_cons, List.nodup_cons] at nd
    intro a ha b hb e
    rcases List.mem_cons.mp ha with z | z <;> rcases List.mem_cons.mp hb with w | w
    · rw [z, w]
    · exact absurd (List.mem_map.mpr ⟨b, w, by rw [← e, z]⟩) nd.1
    · exact absurd (List.mem_map.mpr ⟨a, z, by rw [e, w]⟩) nd.1
    · exact ih nd.2 a z b w e
theorem bs_of {C : List Col} {D T : List (List Key)} {ns : List Int} (nd : (D.map numR).Nodup) (hD : ∀ r, r ∈ D ↔ ∃ c ∈ C, r ∈ c) (pm : ns.Perm (D.map numR)) (so : ns.Pairwise (· ≤ ·)) (hT : T.map numR = ns) (sub : ∀ r ∈ T, r ∈ D) : IsBs C T := by
  have inj := nd_num nd
  refine ⟨?_, fun r => ?_⟩
  · have n2 : (T.map numR).Nodup := by rw [hT]; exact pm.nodup_iff.mpr nd
    have s2 : (T.map numR).Pairwise (· ≤ ·) := by rw [hT]; exact so
    have both := List.pairwise_and_iff.mpr ⟨s2, n2⟩
    rw [List.pairwise_map] at both
    exact List.Pairwise.imp (fun {a b} ⟨x, y⟩ => by have : numR a ≠ numR b := y; omega) both
  · rw [← hD]
    refine ⟨sub r, fun h => ?_⟩
    have : numR r ∈ T.map numR := by rw [hT]; exact pm.mem_iff.mpr (List.mem_map_of_mem h)
    obtain ⟨t, ht, e⟩ := List.mem_map.mp this
    rw [← inj t (sub t ht) r h e]
    exact ht
end L2
namespace L2
open PySem PySem.Spec PyProof.Rows
theorem paired_last {α β : Type} {R : α → β → Prop} {as : List α} {bs : List β} (h : Paired R as bs) (ne : as ≠ []) : ∃ as0 a bs0 b, as = as0 ++ [a] ∧ bs = bs0 ++ [b] ∧ Paired R as0 bs0 ∧ R a b := by
  induction h with
  | nil => exact absurd rfl ne
  | @cons x y as bs r p ih =>
    cases as with
    | nil => cases p; exact ⟨[], x, [], y, rfl, rfl, .nil, r⟩
    | cons a as =>
      obtain ⟨as0, a', bs0, b', e1, e2, h1, h2⟩ := ih (fun z => nomatch z)
      exact ⟨x :: as0, a', y :: bs0, b', by rw [e1]; rfl, by rw [e2]; rfl, .cons r h1, h2⟩
theorem last_ix {n : Nat} : ixN (n + 1) (-1) = some n := by
  unfold ixN
  rw [if_neg (by decide), if_pos (by omega)]
  congr 1
  omega
theorem last_at {vs : List V} {v : V} : atI (vs ++ [v]) (-1) = some v := by
  unfold atI
  rw [List.length_append, List.length_singleton, last_ix]
  simp
theorem cut_lo {xs : List V} {n : Nat} (hn : n ≤ xs.length) : cutV xs (some (n : Int)) none = xs.drop n := by
  unfold cutV
  rw [HT.sIx_nat, HT.sIx_none, Nat.min_eq_left hn]
  exact List.take_of_length_le (by rw [List.length_drop]; omega)
theorem cut_hi {xs : List V} {n : Nat} (hn : n ≤ xs.length) : cutV xs none (some (n : Int)) = xs.take n := by
  unfold cutV
  rw [HT.sIx_nat, HT.sIx_none, Nat.min_eq_left hn]
  rfl
theorem paired_take {α β : Type} {R : α → β → Prop} : ∀ {as : List α} {bs : List β} (n : Nat), Paired R as bs → Paired R (as.take n) (bs.take n) ∧ Paired R (as.drop n) (bs.drop n)
  | _, _, n, .nil => by rw [List.take_nil, List.take_nil, List.drop_nil, List.drop_nil]; exact ⟨.nil, .nil⟩
  | _, _, 0, .cons a b => ⟨.nil, .cons a b⟩
  | _, _, n + 1, .cons a b => ⟨.cons a (paired_take n b).1, (paired_take n b).2⟩
end L2
namespace L2
open PySem PySem.Spec PyProof.Rows
end L2
namespace L2
open PySem PySem.Spec PyProof.Rows
section
variable {P : Program} {w : World} {A : Around} {E : Value → Shared → Prop} {s : Shared} {it a : Addr} {its : Array Value} {i : Nat}
/-- a tuple's walk, asked for its next from within: one comes -/
theorem nx_tup {Q : Value → Shared → Prop} {x : Value} (st : s.heap.IsTupleIter it a i) (g : s.heap.IsTuple a its) (hx : its[i]? = some x)
    (q : ∀ h', h'.IsTupleIter it a (i + 1) → Heap.SameBut it s.heap h' → Q x { s with heap := h' }) : wpAny (model P w) A (Builtin.SmallTypes.nextOf (.ref it)) Q E s := by
  obtain ⟨oi, gi, ci, di⟩ := id st
  obtain ⟨ot, gt, _, n, dt⟩ := g
  unfold Builtin.SmallTypes.nextOf
  refine wpAny_bind (wpAny_callSpecial?_slot (name := Str.ofString "__next__") st.typeIs F.slot_tuple_iterator_next (wpAny_call_entry F.slot_tuple_iterator_next st.typeIs F.entry_tuple_iterator_next ?_ (F.args_tuple_iterator_next_1 _)))
  show wpAny _ _ (field (.ref it) 0 >>= _) _ _ s
  refine wpAny_bind (wpAny_field gi di (x := .ref a) rfl ?_)
  show wpAny _ _ (if (Value.ref a == Value.none) = true then _ else _) _ _ s
  rw [if_neg (show ¬ ((Value.ref a == Value.none) = true) from Bool.false_ne_true)]
  show wpAny _ _ (field (.ref it) 1 >>= _) _ _ s
  refine wpAny_bind (wpAny_field gi di (x := .int i 0) rfl ?_)
  show wpAny _ _ (seqItems? (.ref a) >>= _) _ _ s
  refine wpAny_bind (wpAny_seqItems gt dt ?_)
  simp only [Int.toNat_natCast, hx]
  refine wpAny_bind (wpAny_setField gi di (by simp) (wpAny_pure ⟨x, rfl, wpAny_pure (q _ ?_ (Heap.SameBut.update ..))⟩))
  refine ⟨_, Heap.get?_update_self _ gi (Obj.isFreed_of_fields (Obj.data_mapFields di _)), (Obj.cls_mapFields ..).trans ci, ?_⟩
  rw [Obj.data_mapFields di]
  simp [rawInt]
/-- .. none is left -/
theorem nx_tup0 {Q : Value → Shared → Prop} (hh : A.handled = none) (st : s.heap.IsTupleIter it a i) (g : s.heap.IsTuple a its) (hx : its[i]? = none)
    (q : ∀ h' e, Heap.ExtBut it s.heap h' → (∃ o, h'.get? e = some o ∧ o.cls = .type "StopIteration") → E (.ref e) { s with heap := h' }) : wpAny (model P w) A (Builtin.SmallTypes.nextOf (.ref it)) Q E s := by
  obtain ⟨oi, gi, ci, di⟩ := id st
  obtain ⟨ot, gt, _, n, dt⟩ := g
  unfold Builtin.SmallTypes.nextOf
  refine wpAny_bind (wpAny_callSpecial?_slot (name := Str.ofString "__next__") st.typeIs F.slot_tuple_iterator_next (wpAny_call_entry F.slot_tuple_iterator_next st.typeIs F.entry_tuple_iterator_next ?_ (F.args_tuple_iterator_next_1 _)))
  show wpAny _ _ (field (.ref it) 0 >>= _) _ _ s
  refine wpAny_bind (wpAny_field gi di (x := .ref a) rfl ?_)
  show wpAny _ _ (if (Value.ref a == Value.none) = true then _ else _) _ _ s
  rw [if_neg (show ¬ ((Value.ref a == Value.none) = true) from Bool.false_ne_true)]
  show wpAny _ _ (field (.ref it) 1 >>= _) _ _ s
  refine wpAny_bind (wpAny_field gi di (x := .int i 0) rfl ?_)
  show wpAny _ _ (seqItems? (.ref a) >>= _) _ _ s
  refine wpAny_bind (wpAny_seqItems gt dt ?_)
  simp only [Int.toNat_natCast, hx]
  first
    | refine wpAny_bind (wpAny_rule (wpAny_bind (wpAny_setField gi di (by simp) (wpAny_bind (wpAny_letGo ?_)))))
    | refine wpAny_bind (wpAny_rule (wpAny_bind (wpAny_setField gi di (by simp) ?_)))
    | refine wpAny_bind (wpAny_setField gi di (by simp) ?_)
  show wpAny _ _ (newExc (.type "StopIteration") [] >>= _) _ _ _
  refine wpAny_bind ?_
  simp only [newExc, newTuple]
  refine wpAny_bind (wpAny_newObj_type ?_ (by size_fits))
  refine wpAny_bind (m := firstArgMember _ _) (wpAny_of_eq (a := Value.none) (by first | rfl | (simp only [firstArgMember]; rfl)) (wpAny_newObj_type ?_ (by size_fits)))
  simp only [raiseNew]
  refine wpAny_bind (wpAny_handled ?_)
  first | rw [show A.in1.handled = none from hh] | rw [hh]
  refine wpAny_bind (wpAny_pure (wpAny_throw ?_))
  exact q _ _ (((Heap.SameBut.update ..).extBut.push _).push _) ⟨_, Heap.get?_push_size _ rfl, rfl⟩
theorem drawsT (hh : A.handled = none) (ne : a ≠ it) : Draws P w A it [it, a] its.size (fun i x => its[i]? = some x) (fun i h => h.IsTupleIter it a i ∧ h.IsTuple a its) where
  live := fun i h st => by
    obtain ⟨⟨o, e, _⟩, _⟩ := st
    exact ⟨o, e⟩
  frame := fun i h h' st k => ⟨st.1.at fun o e => k it (by simp) o e, by
    obtain ⟨o, e, r⟩ := st.2
    exact ⟨o, k a (by simp) o e, r⟩⟩
  item := fun i s Q E hi st q => nx_tup st.1 st.2 (Array.getElem?_eq_getElem hi) fun h' st' sb => q _ h' s.toks (Array.getElem?_eq_getElem hi) ⟨st', by
    obtain ⟨o, e, r⟩ := st.2
    exact ⟨o, (sb.2 a ne).trans e, r⟩⟩ sb
  done := fun s Q E st q => nx_tup0 hh st.1 st.2 (Array.getElem?_eq_none (Nat.le_refl _)) q
end
section
variable {X : Cx} {pins : List (Addr × Obj)} {σ : St} {H : Hp} {s : Shared} {h' : Heap}
/-- two records of ours have turned, and a tuple is laid -/
theorem turned2 {t' : Nat} {e it T : Addr} {xs : List V} (I : Inv X pins σ H s) (k : ∀ b o, b ≠ e → b ≠ it → s.heap.get? b = some o → h'.get? b = some o) (he : FpOk X pins H e) (hi : FpOk X pins H it)
    (hT : s.heap.objs.size ≤ T) (new : ObjOk X.prog X.w (upd H T (.tup xs)) h' T (.tup xs)) : Inv X pins σ (upd H T (.tup xs)) { s with heap := h', toks := t' } := by
  obtain ⟨e0, e1, e2, e3, e4, e5⟩ := he
  obtain ⟨i0, i1, i2, i3, i4, i5⟩ := hi
  have hn : H T = none := I.hok.fresh hT
  have nt : ∀ b o, s.heap.get? b = some o → b ≠ T := fun b o g z => absurd (Nat.lt_of_lt_of_le (Heap.lt_size g) (z ▸ hT)) (Nat.lt_irrefl _)
  have ue : ∀ b u, H b = some u → upd H T (.tup xs) b = some u := fun b u g => by rw [upd_ne (ne_of_none g hn)]; exact g
  have k2 : ∀ b o, b ∉ [e, it] → s.heap.get? b = some o → h'.get? b = some o := fun b o hb g => k b o (fun z => hb (by simp [z])) (fun z => hb (by simp [z])) g
  refine I.step (g' := s.gens) (d' := s.drawn) (ch := [e, it]) (fun b hb => ?_) (fun b o _ _ hc g _ => k2 b o hc g) (fun b o _ _ hc g _ => ⟨o.slots, k2 b o hc g⟩) (fun b o _ g n => by rw [upd_ne (nt b o g)]; exact n)
    (fun b o hc g => ⟨o, k2 b o hc g⟩) (fun b ys g => ue b _ g) (fun b o u g => ue b _ g) (fun b ps g => ⟨#[], by rw [ue b _ g]; simp⟩) (fun m hm => ?_) (fun b u g => ?_) I.bare
  · have z : b = e ∨ b = it := by simpa using hb
    rcases z with rfl | rfl
    · exact ⟨e3, e1, e4, e5⟩
    · exact ⟨i3, i1, i4, i5⟩
  · obtain ⟨o, es, ep, ho, r⟩ := hm
    exact ⟨o, es, ep, k _ o (Ne.symm e1) (Ne.symm i1) ho, r⟩
  · by_cases hb : b = T
    · subst hb; rw [upd_same] at g; cases g; exact new
    · rw [upd_ne hb] at g
      refine (I.hok b u g).stay (fun c v hc q => ?_) (fun c q => ue c _ q) fun c ys q => ue c _ q
      have z : ∃ u', H c = some u' := by
        rcases hc with z | z
        · exact ⟨u, z ▸ g⟩
        · exact ⟨_, z⟩
      obtain ⟨u', z⟩ := z
      exact k c v (fun y => by rw [y, e0] at z; cases z) (fun y => by rw [y, i0] at z; cases z) q
end
/-- the places and items of a tuple -/
noncomputable def Ite (K : PySem.W.Frag) (a : Addr) : It :=
  ⟨fun i H => ∃ xs x, SqT K H a xs ∧ xs[i]? = some x, fun i H x H' => ∃ T v, H T = none ∧ x = .ref T ∧ H' = upd H T (.tup [.int (i : Nat), v]) ∧ ∀ xs, SqT K H a xs → xs[i]? = some v, fun i H => ∃ xs, SqT K H a xs ∧ xs.length = i⟩
theorem turn_enum {P : Program} {w : World} {K : PySem.W.Frag} {elts : List Expr} {x1 : Nat} {pos : Pos} (a e it : Addr) (ne : e ≠ it) : Turn P w K (.Tuple elts x1 pos) (Ite K a) [e, it] e (fun i h => (∃ old, IsEnum h e it (i : Nat) old) ∧ h.IsTupleIter it a i) where
  mem := by simp
  obj := fun i h st b hb => by
    have z : b = e ∨ b = it := by simpa using hb
    obtain ⟨⟨old, st1⟩, o, st2, c, d⟩ := st
    rcases z with rfl | rfl
    · exact ⟨_, st1, fun v z => by cases z⟩
    · exact ⟨o, st2, fun v z => by rw [d] at z; cases z⟩
  keep := fun i h h' st k => by
    obtain ⟨⟨old, st1⟩, st2⟩ := st
    exact ⟨⟨old, k e (by simp) _ st1⟩, st2.at fun o g => k it (by simp) o g⟩
  item := by
    intro X hP hw hK hc i pins s σ H E I hf st hg
    subst hP hw hK
    obtain ⟨xs, x, hq, hx⟩ := hg
    obtain ⟨its, rv, p, hz⟩ := I.tuple hq
    obtain ⟨u, hu, ru⟩ := rv.get hx
    obtain ⟨⟨old, st1⟩, st2⟩ := st
    have fe := hf e (by simp)
    have fi := hf it (by simp)
    have hai : a ≠ it := fun z => by
      obtain ⟨o, g1, c1, _⟩ := st2
      obtain ⟨o', g2, c2, _⟩ := p
      rw [z, g1] at g2
      cases g2
      rw [c1] at c2
      exact absurd c2 (by decide)
    have hae : a ≠ e := fun z => by
      obtain ⟨o', g2, c2, _⟩ := p
      rw [z, st1] at g2
      cases g2
      have c3 : Value.type "enumerate" = Value.type "tuple" := c2
      exact absurd c3 (by decide)
    have lt : i < its.toArray.size := by
      have := (List.getElem?_eq_some_iff.mp hu).1
      simpa using this
    have D : Draws X.prog X.w X.A.in1 it [it, a] its.toArray.size (fun i x => its.toArray[i]? = some x) (fun i h => h.IsTupleIter it a i ∧ h.IsTuple a its.toArray) := drawsT (I.ok.hd hc) hai
    refine wpAny_pyNext_enum_itemD D st1 ⟨st2, p⟩ lt ne (by simp [ne, Ne.symm hae]) fun y h' tk hy o1 o2 o3 o4 k => ?_
    have ey : y = u := by
      have z : its.toArray[i]? = some u := by simpa using hu
      rw [z] at hy; exact (Option.some.inj hy).symm
    subst ey
    refine ⟨_, rfl, ?_⟩
    refine wpAny_letOwnedTupleGo_enum (s := { s with heap := h', toks := tk + 1 }) o1 fun h2 st1' sb => ?_
    have nT : s.heap.objs.size ≠ e := Nat.ne_of_gt (Heap.lt_size st1)
    have kk : ∀ b o, b ≠ e → b ≠ it → s.heap.get? b = some o → h2.get? b = some o := fun b o q1 q2 q => (sb.2 b q1).trans (k b o q1 q2 q)
    refine ⟨.ref s.heap.objs.size, upd H s.heap.objs.size (.tup [.int (i : Nat), x]), (show Inv X pins σ (upd H s.heap.objs.size (.tup [.int (i : Nat), x])) { s with heap := h2, toks := tk + 1 } from turned2 (s := s) (h' := h2) (t' := tk + 1) I kk fe fi (Nat.le_refl _) ?_), rfl, ⟨_, x, I.hok.fresh (Nat.le_refl _), rfl, rfl, fun ys hy => by rw [I.tuple_inj hy hq]; exact hx⟩, ⟨⟨_, by simpa using st1'⟩, ?_⟩, fun b hb => ?_⟩
    · exact ⟨by show 2 ≤ sizeLine; decide, [.int i tk, y], .cons ⟨tk, rfl⟩ (.cons ru .nil), ⟨_, (sb.2 _ nT).trans o3, rfl, _, rfl⟩⟩
    · exact o2.1.at fun o g => (sb.2 it (Ne.symm ne)).trans g
    · have nb : b ≠ s.heap.objs.size := by
        have z : b = e ∨ b = it := by simpa using hb
        rcases z with rfl | rfl
        · exact Nat.ne_of_lt (Heap.lt_size st1)
        · obtain ⟨o, g, _⟩ := st2
          exact Nat.ne_of_lt (Heap.lt_size g)
      rw [upd_ne nb]
      exact (hf b hb).1
  done := by
    intro X hP hw hK hc i pins s σ H E I hf st hg
    subst hP hw hK
    obtain ⟨xs, hq, hx⟩ := hg
    obtain ⟨its, rv, p, hz⟩ := I.tuple hq
    obtain ⟨⟨old, st1⟩, st2⟩ := st
    obtain ⟨f0, f1, f2, f3, f4, f5⟩ := hf it (by simp)
    have hai : a ≠ it := fun z => by
      obtain ⟨o, g1, c1, _⟩ := st2
      obtain ⟨o', g2, c2, _⟩ := p
      rw [z, g1] at g2
      cases g2
      rw [c1] at c2
      exact absurd c2 (by decide)
    have D : Draws X.prog X.w X.A.in1 it [it, a] its.toArray.size (fun i x => its.toArray[i]? = some x) (fun i h => h.IsTupleIter it a i ∧ h.IsTuple a its.toArray) := drawsT (I.ok.hd hc) hai
    have el : i = its.toArray.size := by
      have := rv.length
      simp
      omega
    exact wpAny_pyNext_enum_endD D st1 ⟨el ▸ st2, p⟩ fun h' eb => ⟨rfl, I.turned (t' := s.toks) (fun b o hb g => eb b o hb g) f0 f1 f3 f4 f5⟩
  self := fun A i s Q E st h => by
    obtain ⟨⟨old, st1⟩, _⟩ := st
    exact wpAny_pyIter_enum st1 h
open AutoSeq1 (wpAny_loadPart') in
theorem new_enumT (l : Addr) (items : Array Value) (n : Nat) (dct : Option Addr) (sl : Array (Option Value)) : Meets (Builtin.«enumerate.__new__» ⟨[.type "enumerate", .ref l], []⟩) (fun _ R s => s.heap.get? l = some { cls := .type "tuple", dict := dct, data := .seq items n, slots := sl } ∧
    R (.ok (.ret (.ref (s.heap.push { cls := .type "tuple_iterator", data := .fields #[.ref l, .int 0 0] }).objs.size))) { s with heap := (s.heap.push { cls := .type "tuple_iterator", data := .fields #[.ref l, .int 0 0] }).push { cls := .type "enumerate", data := .fields #[.none, .bool false, .ref s.heap.objs.size, rawInt 0, .none, .none] } }) :=
  .of_wp fun prog w A R s h => by
    obtain ⟨hp, g, d, tk, os⟩ := s
    obtain ⟨hl, h⟩ := h
    have sb := sub_enumerate
    have hT : Heap.IsTuple (Shared.heap ⟨hp, g, d, tk, os⟩) l items := ⟨_, hl, rfl, n, rfl⟩
    wp_walk using wpAny_loadPart' hl
    refine wpAny_stack_any fun st => wpAny_pure ?_
    split
    · rename_i c _ _ _ _ _
      cases (c == Value.type "enumerate") <;> (wp_walk using wpAny_loadPart' hl, wpAny_pyIter_tuple hT; exact ⟨_, rfl, h⟩)
    · wp_walk using wpAny_loadPart' hl, wpAny_pyIter_tuple hT
      exact ⟨_, rfl, h⟩
section
variable {X : Cx} {elts : List Expr} {x1 : Nat} {tp : Pos}
/-- for i, x in enumerate(t), t a tuple -/
noncomputable def iEnm (K : PySem.W.Frag) (ta : TA) : TI := fun σ H R => ta σ H fun vs H1 => ∃ a, vs = [.ref a] ∧ (∃ xs, SqT K H1 a xs) ∧ R (Ite K a) H1
theorem pi_enum {l : Expr} {ta : TA} {p pos : Pos} (hg : Gl X "enumerate") (hm : X.mg "enumerate" = none) (ha : PA X [l] ta) (hs : starEach [l] X.env = [(false, eval l X.env)] := by rfl) : PI X (.Tuple elts x1 tp) (.Call (.Name "enumerate" p) [l] [] pos) (iEnm X.K ta) := by
  intro pins s σ H R I h
  refine Call_ (ld_blt I hg hm boot_enumerate (PyProof.Rows.callWith_type1 (thn (ha pos pins s σ H _ I h) fun us s1 ⟨vs, H1, I1, r1, q1⟩ => ?_) hs rfl))
  obtain ⟨a, e, ⟨xs, hq⟩, q⟩ := q1
  subst e
  cases r1 with
  | cons r rr =>
    cases rr
    cases r
    obtain ⟨its, rv, pt, hz⟩ := I1.tuple hq
    obtain ⟨⟨c, dct, dt, sl⟩, hl, hc, n, hd⟩ := id pt
    replace hc : c = .type "tuple" := hc
    replace hd : dt = .seq its.toArray n := hd
    subst hc hd
    refine callType_new F.called_enumerate (by decide) (F.typeCall_enumerate_1 _) (F.newCall_enumerate_1 _) (fun obj => F.args_object_init_2 obj _) F.entry_enumerate_new (new_enumT a its.toArray n dct sl) ⟨hl, ?_⟩
    have hz1 : (s1.heap.push { cls := .type "tuple_iterator", data := .fields #[.ref a, .int 0 0] }).objs.size = s1.heap.objs.size + 1 := Heap.size_push ..
    have he : IsEnum ((s1.heap.push { cls := .type "tuple_iterator", data := .fields #[.ref a, .int 0 0] }).push { cls := .type "enumerate", data := .fields #[.none, .bool false, .ref s1.heap.objs.size, rawInt 0, .none, .none] }) (s1.heap.objs.size + 1) s1.heap.objs.size 0 .none := by
      have := Heap.get?_push_size (s1.heap.push { cls := .type "tuple_iterator", data := .fields #[.ref a, .int 0 0] }) (o := { cls := .type "enumerate", data := .fields #[.none, .bool false, .ref s1.heap.objs.size, rawInt 0, .none, .none] }) rfl
      rw [hz1] at this
      exact this
    show _ ∧ _
    rw [hz1]
    refine ⟨⟨_, he, rfl⟩, ?_⟩
    refine wpAny_pyIter_enum he ?_
    refine ⟨s1.heap.objs.size + 1, [s1.heap.objs.size + 1, s1.heap.objs.size], _, _, H1, rfl, I1.kept (t' := s1.toks) (fun b o g => Heap.get?_push_of_some _ (Heap.get?_push_of_some _ g)), turn_enum a _ _ (Nat.succ_ne_self _), ⟨⟨_, he⟩, ⟨_, Heap.get?_push_of_some _ (Heap.get?_push_size _ rfl), rfl, rfl⟩⟩, fun b hb => ?_, q⟩
    have z : b = s1.heap.objs.size + 1 ∨ b = s1.heap.objs.size := by simpa using hb
    rcases z with rfl | rfl
    · exact I1.fpOk (Nat.le_succ _) (I1.hok.fresh (Nat.le_succ _))
    · exact I1.fpOk (Nat.le_refl _) (I1.hok.fresh (Nat.le_refl _))
end
end L2
namespace L2
open PySem PySem.Spec PyProof.Rows
section
variable {prog : Program} {w : World} {A : Around} {E : Value → Shared → Prop} {s : Shared}
open HT in
/-- t[a:b], the whole of it: t itself -/
theorem item_whole {t sl : Addr} {items : Array Value} {vl vu : Value} {lo hi : Option Int} {Q : Value → Shared → Prop} (ht : IsTup s.heap t items) (hs : s.heap.IsSliceOf sl vl vu .none) (pl : IsPart vl lo) (pu : IsPart vu hi)
    (hw : sIx items.size 0 lo = 0 ∧ sIx items.size items.size hi = items.size) (h : Q (.ref t) s) : wpAny (model prog w) A (getItem (.ref t) (.ref sl)) Q E s := by
  obtain ⟨os, hos, hcs, hds⟩ := id hs
  have hTs : s.TypeIs (.ref sl) "slice" := ⟨os, hos, hcs⟩
  unfold getItem
  try with_reducible refine wpAny_holding ?_
  first | refine wpAny_bind (wpAny_pure ?_) | skip
  refine wpAny_bind (wpAny_sequenceKey ht.typeIs (by decide) ?_)
  refine wpAny_bind (wpAny_callSpecial?_slot (name := Str.ofString "__getitem__") ht.typeIs PyProof.Rows.slot_tuple_getitem (wpAny_call_entry PyProof.Rows.slot_tuple_getitem ht.typeIs entry_tuple_getitem ?_ (args_tuple_getitem _ _)))
  show wpAny _ _ (Builtin.Tuple.tupleItemsOf (.ref t) >>= _) _ _ s
  refine wpAny_bind (tupleItemsOf_ ht ?_)
  refine wpAny_bind (wpAny_typeOf hTs ?_)
  rw [if_pos (by decide)]
  refine wpAny_bind (sliceApplied_gen hs pl pu ?_)
  have yes : ((((sIx items.size 0 lo : Nat) : Int) == 0 && (1 : Int) == 1 && (sIx items.size items.size hi - sIx items.size 0 lo) == items.size) = true) := by
    rw [hw.1, hw.2]
    simp
  show wpAny _ _ (if (((sIx items.size 0 lo : Nat) : Int) == 0 && (1 : Int) == 1 && (sIx items.size items.size hi - sIx items.size 0 lo) == items.size) = true then _ else _) _ _ s
  rw [if_pos yes]
  have ex : ∀ {B : Around} {R : Bool → Shared → Prop} {E' : Value → Shared → Prop}, R true s → wpAny (model prog w) B (Builtin.Tuple.tupleIsExact (.ref t)) R E' s := by
    intro B R E' q
    obtain ⟨o, ho, hc, n, hd⟩ := id ht
    unfold Builtin.Tuple.tupleIsExact
    first
      | refine wpAny_bind (wpAny_typeOf ht.typeIs (wpAny_pure ?_))
      | refine wpAny_bind (wpAny_load ho (wpAny_pure ?_))
    first | exact q | (rw [hc]; exact q) | simpa using q
  first
    | exact wpAny_bind (ex (wpAny_bind (wpAny_rule (wpAny_pure ⟨_, rfl, wpAny_pure h⟩))))
    | exact wpAny_bind (ex (wpAny_bind (wpAny_rule (wpAny_bind (wpAny_pure (wpAny_pure ⟨_, rfl, wpAny_pure h⟩))))))
    | (refine wpAny_bind (ex ?_); simp only [if_true]; refine wpAny_bind (wpAny_rule ?_); first | exact wpAny_pure ⟨_, rfl, wpAny_pure h⟩ | exact wpAny_bind (wpAny_pure (wpAny_pure ⟨_, rfl, wpAny_pure h⟩)))
end
section
variable {X : Cx}
/-- t + u, whatever they are -/
noncomputable def rCatA (K : PySem.W.Frag) : R2 := fun x y H Q => ∃ a b xs ys, x = .ref a ∧ y = .ref b ∧ SqT K H a xs ∧ SqT K H b ys ∧ xs.length + ys.length ≤ sizeLine ∧ ∀ r H', Same H H' → SqT K H' r (xs ++ ys) → Q (.ref r) H'
theorem op_catA : OpR X (binaryOp .Add) (rCatA X.K) := by
  intro pins s σ H x y v u Q I rx ry h
  obtain ⟨a, b, xs, ys, rfl, rfl, ha, hb, hz, q⟩ := h
  by_cases hx : xs = []
  · cases rx
    cases ry
    obtain ⟨its, r1, p1, _⟩ := I.tuple ha
    obtain ⟨its2, r2, p2, _⟩ := I.tuple hb
    have e1 : its = [] := r1.nil_iff.mpr hx
    obtain ⟨⟨c1, d1, t1, l1⟩, o1, k1, n1, z1⟩ := id p1
    obtain ⟨⟨c2, d2, t2, l2⟩, o2, k2, n2, z2⟩ := id p2
    simp only at k1 z1 k2 z2
    subst k1 z1 k2 z2
    exact concat_meets ⟨_, o1, rfl⟩ ⟨_, o2, rfl⟩ noFill_tuple_add seq_tuple_add PySem.F.slot_tuple_add PySem.F.entry_tuple_add (PySem.F.args_tuple_add_2 _ _) (tuple_addW0 a b its.toArray its2.toArray n1 n2 d1 d2 l1 l2 (by simp [e1]))
      ⟨o1, o2, .ref b, H, I, rfl, q b H (fun _ _ e => e) (by rw [hx]; exact hb)⟩
  · exact op_catT pins s σ H _ _ v u Q I rx ry ⟨a, b, xs, ys, rfl, rfl, ha, hb, hx, hz, fun z => q a H (fun _ _ e => e) (by rw [z, List.append_nil]; exact ha), fun _ p hp => q p _ (Same.upd hp) (SqT.of upd_same)⟩
/-- t[lo:hi], whatever it comes to -/
noncomputable def rSlA (K : PySem.W.Frag) : V → Option Int → Option Int → Hp → VK → Prop := fun x lo hi H Q => ∃ a xs, x = .ref a ∧ SqT K H a xs ∧ ∀ r H', Same H H' → SqT K H' r (cutV xs lo hi) → Q (.ref r) H'
theorem sl_tupA : SlR X (rSlA X.K) := by
  intro pins s σ H x v vl vu lo hi sl Q I rx hs pl pu h
  obtain ⟨a, xs, rfl, hx, q⟩ := h
  by_cases hw : HT.sIx xs.length 0 lo = 0 ∧ HT.sIx xs.length xs.length hi = xs.length
  · cases rx
    obtain ⟨its, r, ht, hz⟩ := I.tuple hx
    have hlen : its.toArray.size = xs.length := by rw [List.size_toArray]; exact r.length.symm
    have e : cutV xs lo hi = xs := by
      unfold cutV
      rw [hw.1, hw.2]
      simp
    exact ⟨"tuple", _, PyProof.Rows.slot_tuple_getitem.lookup, ht.typeIs, item_whole ht hs pl pu (by rw [hlen]; exact hw) ⟨.ref a, H, I, rfl, q a H (fun _ _ e => e) (by rw [e]; exact hx)⟩⟩
  · exact sl_tup pins s σ H _ v vl vu lo hi sl Q I rx hs pl pu ⟨a, xs, rfl, hx, hw, fun p hp => q p _ (Same.upd hp) (SqT.of upd_same)⟩
/-- a walk over the places and items of a tuple -/
theorem for_enum {K : PySem.W.Frag} {a : Addr} {xs : List V} {g : TG} {tb : TS} {D : Ends} {σ : St} {H : Hp} (Pv : Nat → St → Hp → Prop) (h0 : Pv 0 σ H) (hl : ∀ i σ H, i ≤ xs.length → Pv i σ H → SqT K H a xs)
    (hs : ∀ i y σ H T, xs[i]? = some y → Pv i σ H → H T = none → g (.ref T) σ (upd H T (.tup [.int (i : Nat), y])) fun σ2 H2 => tb { D with nx := Pv (i + 1), ct := Pv (i + 1), bk := D.nx } σ2 H2) (hd : ∀ σ H, Pv xs.length σ H → D.nx σ H) :
    ∃ W : Nat → Nat → St → Hp → Prop, (∃ m, W 0 m σ H) ∧ ∀ i m σ H, W i m σ H →
      ((Ite K a).stop i H ∧ D.nx σ H) ∨ ((Ite K a).go i H ∧ ∃ N : St → Hp → Prop, (∀ σ' H', N σ' H' → ∃ m', m' < m ∧ W (i + 1) m' σ' H') ∧ ∀ x H', (Ite K a).yld i H x H' → g x σ H' fun σ2 H2 => tb { D with nx := N, ct := N, bk := D.nx } σ2 H2) := by
  refine ⟨fun i m σ H => m = xs.length - i ∧ i ≤ xs.length ∧ Pv i σ H, ⟨xs.length, by simp, Nat.zero_le _, h0⟩, ?_⟩
  rintro i m σ H ⟨rfl, hi, p⟩
  have q := hl i σ H hi p
  by_cases hlt : i < xs.length
  · refine .inr ⟨⟨xs, xs[i], q, by simp [hlt]⟩, Pv (i + 1), fun σ' H' p' => ⟨xs.length - (i + 1), by omega, rfl, hlt, p'⟩, fun x H' y => ?_⟩
    obtain ⟨T, v, hT, rfl, rfl, y⟩ := y
    exact hs i v σ H T (y xs q) p hT
  · have e : i = xs.length := by omega
    exact .inl ⟨⟨xs, q, e.symm⟩, hd σ H (e ▸ p)⟩
end
end L2
namespace L2
open PySem PySem.Spec PyProof.Rows LM
/-- a column without the burden of a number -/
noncomputable def wo (n : Int) (c : Col) : Col := c.filter fun r => decide (numR r ≠ n)
/-- whether a column has a number -/
noncomputable def anyN (n : Int) (c : Col) : Bool := c.any fun r => decide (numR r = n)
theorem veq {a b : Int} : decide (V.int a = V.int b) = true ↔ a = b := ⟨fun h => V.int.inj (of_decide_eq_true h), fun h => decide_eq_true (congrArg V.int h)⟩
theorem vne {a b : Int} : (!decide (V.int a = V.int b)) = true ↔ a ≠ b := by
  rw [Bool.not_eq_true', decide_eq_false_iff_not]
  exact ⟨fun h e => h (congrArg V.int e), fun h e => h (V.int.inj e)⟩
theorem len_two {α β : Type} (f f' : α → β) : ∀ L : List α, (L.flatMap fun p => [f p, f' p]).length = 2 * L.length
  | [] => rfl
  | p :: L => by
    have e : ((p :: L).flatMap fun p => [f p, f' p]).length = (L.flatMap fun p => [f p, f' p]).length + 2 := by simp
    rw [e, len_two f f' L]
    show _ = 2 * (L.length + 1)
    omega
/-- a column in which a burden stands in the place of the one of a number, else at the end -/
noncomputable def filC (n : Int) (b : List Key) (c : Col) : Col := (c.map fun r => if numR r = n then b else r) ++ (if anyN n c = true then [] else [b])
/-- the first place of a number -/
noncomputable def FstN (n : Int) (c : Col) (i : Nat) : Prop := ∃ r, c[i]? = some r ∧ numR r = n ∧ ∀ j r', j < i → c[j]? = some r' → numR r' ≠ n
theorem map_not {n : Int} {b : List Key} : ∀ {c : Col}, (∀ r ∈ c, numR r ≠ n) → (c.map fun r => if numR r = n then b else r) = c
  | [], _ => rfl
  | r :: c, h => by
    rw [List.map_cons, if_neg (h r (List.mem_cons_self ..)), map_not fun r' h' => h r' (List.mem_cons_of_mem _ h')]
theorem filC_none {n : Int} {b : List Key} {c : Col} (h : ∀ r ∈ c, numR r ≠ n) : filC n b c = c ++ [b] := by
  unfold filC
  rw [map_not h, if_neg]
  intro z
  obtain ⟨r, hr, e⟩ := List.any_eq_true.mp z
  exact h r hr (of_decide_eq_true e)
/-- the others of a column with unlike numbers -/
theorem nd_split {c : Col} (nd : (c.map numR).Nodup) {i : Nat} {r : List Key} (h : c[i]? = some r) : c = c.take i ++ r :: c.drop (i + 1) ∧ (∀ r' ∈ c.take i, numR r' ≠ numR r) ∧ ∀ r' ∈ c.drop (i + 1), numR r' ≠ numR r := by
  obtain ⟨hi, e⟩ := List.getElem?_eq_some_iff.mp h
  have sp : c = c.take i ++ r :: c.drop (i + 1) := by
    rw [← e, List.getElem_cons_drop, List.take_append_drop]
  refine ⟨sp, ?_⟩
  rw [sp, List.map_append, List.map_cons] at nd
  obtain ⟨h1, h2, h3⟩ := List.nodup_append.mp nd
  refine ⟨fun r' hr' z => ?_, fun r' hr' z => ?_⟩
  · exact h3 _ (List.mem_map.mpr ⟨r', hr', rfl⟩) _ (List.mem_cons_self ..) z
  · exact (List.nodup_cons.mp h2).1 (List.mem_map.mpr ⟨r', hr', z⟩)
theorem filC_at {n : Int} {b : List Key} {c : Col} (nd : (c.map numR).Nodup) {i : Nat} (h : FstN n c i) : filC n b c = c.take i ++ [b] ++ c.drop (i + 1) := by
  obtain ⟨r, hr, en, _⟩ := h
  obtain ⟨sp, h1, h2⟩ := nd_split nd hr
  rw [en] at h1 h2
  have an : anyN n c = true := List.any_eq_true.mpr ⟨r, List.mem_of_getElem? hr, decide_eq_true en⟩
  unfold filC
  rw [if_pos an, List.append_nil]
  conv => lhs; rw [sp]
  rw [List.map_append, List.map_cons, if_pos en, map_not h1, map_not h2, List.append_assoc]
  rfl
theorem filC_snoc {n : Int} {b : List Key} (c : Col) (r : List Key) : ((c ++ [r]).map fun r => if numR r = n then b else r) = (c.map fun r => if numR r = n then b else r) ++ [if numR r = n then b else r] := by simp
theorem wo_snoc {n : Int} (c : Col) (r : List Key) : wo n (c ++ [r]) = wo n c ++ (if numR r = n then [] else [r]) := by
  unfold wo
  rw [List.filter_append]
  congr 1
  by_cases h : numR r = n
  · rw [if_pos h]; simp [h]
  · rw [if_neg h]; simp [h]
theorem wo_len (n : Int) (c : Col) : (wo n c).length ≤ c.length := List.length_filter_le _ _
/-- a ground with another column on each of its cells -/
theorem grd_maps {g : Nat → Option Col} {R : Strp} (h : IsStr g R) (f : Col → Col) : GrdOf (fun i => (g i).map f) (R.map fun p => (p.1, f p.2)) := by
  refine ⟨fun p hp => ?_, fun p hp i hi b => ?_, fun i c hi e => ?_⟩
  · obtain ⟨q, hq, rfl⟩ := List.mem_map.mp hp
    exact (h.ok q hq).1
  · obtain ⟨q, hq, rfl⟩ := List.mem_map.mp hp
    show (g i).map f = some (f q.2)
    rw [((h.ok q hq).2.2 i hi).mp b]
    rfl
  · have e' : (g i).map f = some c := e
    cases w : g i with
    | none => rw [w] at e'; cases e'
    | some c' =>
      rw [w] at e'
      cases e'
      obtain ⟨q, hq, e1, e2⟩ := h.grd.has i c' hi w
      exact ⟨_, List.mem_map.mpr ⟨q, hq, rfl⟩, congrArg f e1, e2⟩
/-- .. one column on some cells, another on the others, two pairs a strip -/
theorem grd_both {g : Nat → Option Col} {R : Strp} (h : IsStr g R) (m : Nat) (f f' : Col → Col) : GrdOf (fun i => if m.testBit i = true then (g i).map f else (g i).map f') (R.flatMap fun p => [(p.1 &&& m, f p.2), (dif p.1 m, f' p.2)]) := by
  refine ⟨fun p hp => ?_, fun p hp i hi b => ?_, fun i c hi e => ?_⟩
  · obtain ⟨q, hq, hp⟩ := List.mem_flatMap.mp hp
    simp only [List.mem_cons, List.not_mem_nil, or_false] at hp
    rcases hp with rfl | rfl
    · exact Nat.lt_of_le_of_lt Nat.and_le_left (h.ok q hq).1
    · exact dif_lt (h.ok q hq).1
  · obtain ⟨q, hq, hp⟩ := List.mem_flatMap.mp hp
    simp only [List.mem_cons, List.not_mem_nil, or_false] at hp
    show (if m.testBit i = true then (g i).map f else (g i).map f') = _
    rcases hp with rfl | rfl
    · have b' : (q.1 &&& m).testBit i = true := b
      rw [Nat.testBit_and, Bool.and_eq_true] at b'
      rw [if_pos b'.2, ((h.ok q hq).2.2 i hi).mp b'.1]
      rfl
    · have b' : (dif q.1 m).testBit i = true := b
      rw [dif_bit, Bool.and_eq_true] at b'
      have n2 : ¬ m.testBit i = true := by
        have := b'.2
        cases z : m.testBit i with
        | false => simp
        | true => rw [z] at this; cases this
      rw [if_neg n2, ((h.ok q hq).2.2 i hi).mp b'.1]
      rfl
  · have e' : (if m.testBit i = true then (g i).map f else (g i).map f') = some c := e
    cases w : g i with
    | none =>
      rw [w] at e'
      by_cases z : m.testBit i = true
      · rw [if_pos z] at e'; cases e'
      · rw [if_neg z] at e'; cases e'
    | some c' =>
      obtain ⟨q, hq, e1, e2⟩ := h.grd.has i c' hi w
      rw [w] at e'
      by_cases z : m.testBit i = true
      · rw [if_pos z] at e'
        cases e'
        refine ⟨(q.1 &&& m, f q.2), List.mem_flatMap.mpr ⟨q, hq, by simp⟩, congrArg f e1, ?_⟩
        show (q.1 &&& m).testBit i = true
        rw [Nat.testBit_and, e2, z]
        rfl
      · rw [if_neg z] at e'
        cases e'
        refine ⟨(dif q.1 m, f' q.2), List.mem_flatMap.mpr ⟨q, hq, by simp⟩, congrArg f' e1, ?_⟩
        show (dif q.1 m).testBit i = true
        rw [dif_bit, e2]
        simp [z]
/-- a ground told on the cells of a list alone -/
noncomputable def gfun (f : Nat → Option Col) (ks : List Nat) : Nat → Option Col := fun i => if i ∈ ks then f i else none
theorem gfun_snoc {f : Nat → Option Col} {ks : List Nat} {k : Nat} {c : Col} (e : f k = some c) : gfun f (ks ++ [k]) = fun i => if i = k then some c else gfun f ks i := by
  funext i
  unfold gfun
  by_cases z : i = k
  · subst z
    rw [if_pos (by simp), if_pos rfl, e]
  · rw [if_neg z]
    simp [z]
theorem gfun_some {f : Nat → Option Col} {ks : List Nat} {i : Nat} {c : Col} (h : gfun f ks i = some c) : f i = some c := by
  unfold gfun at h
  split at h
  · exact h
  · cases h
theorem gfun_nil (f : Nat → Option Col) : gfun f [] = fun _ => none := by
  funext i
  simp [gfun]
/-- the burdens of a column that may be read -/
theorem ColV.bur {K : PySem.W.Frag} {H : Hp} {b : Addr} {c : Col} (h : ColV K H b c) : ∃ xs, SqT K H b xs ∧ Paired (BurE K H) xs c := by
  obtain ⟨lay, xs, hx, pr⟩ := h
  refine ⟨xs, hx, ?_⟩
  clear hx
  induction pr with
  | nil => exact .nil
  | cons a _ ih =>
    obtain ⟨q, rfl, h2⟩ := a
    exact .cons ⟨lay _ (List.mem_cons_self ..), q, rfl, h2⟩ (ih fun r hr => lay r (List.mem_cons_of_mem _ hr))
end L2
namespace L2
open PySem PySem.Spec PyProof.Rows
/-- where one stands behind the last of some numbers -/
noncomputable def bh (ts : List Int) : Col → Nat
  | [] => 0
  | r :: c => if bh ts c ≠ 0 then bh ts c + 1 else if numR r ∈ ts then 1 else 0
structure IsBh (ts : List Int) (c : Col) (j : Nat) : Prop where
  le : j ≤ c.length
  at' : j ≠ 0 → ∃ r, c[j - 1]? = some r ∧ numR r ∈ ts
  out : ∀ i r, j ≤ i → c[i]? = some r → ¬ numR r ∈ ts
theorem isBh_bh (ts : List Int) : ∀ c : Col, IsBh ts c (bh ts c)
  | [] => ⟨Nat.le_refl _, fun h => absurd rfl h, fun i r _ h => by simp at h⟩
  | r :: c => by
    have ih := isBh_bh ts c
    by_cases h : bh ts c ≠ 0
    · have e : bh ts (r :: c) = bh ts c + 1 := by
        show (if bh ts c ≠ 0 then bh ts c + 1 else _) = _
        rw [if_pos h]
      rw [e]
      refine ⟨by rw [List.length_cons]; have := ih.le; omega, fun _ => ?_, fun i r' hi hr => ?_⟩
      · obtain ⟨r', h1, h2⟩ := ih.at' h
        refine ⟨r', ?_, h2⟩
        rw [show bh ts c + 1 - 1 = (bh ts c - 1) + 1 by omega, List.getElem?_cons_succ]
        exact h1
      · obtain ⟨i', rfl⟩ : ∃ i', i = i' + 1 := ⟨i - 1, by omega⟩
        rw [List.getElem?_cons_succ] at hr
        exact ih.out i' r' (by omega) hr
    · have h0 : bh ts c = 0 := by omega
      by_cases m : numR r ∈ ts
      · have e : bh ts (r :: c) = 1 := by
          show (if bh ts c ≠ 0 then bh ts c + 1 else if numR r ∈ ts then 1 else 0) = _
          rw [if_neg h, if_pos m]
        rw [e]
        refine ⟨by rw [List.length_cons]; omega, fun _ => ⟨r, rfl, m⟩, fun i r' hi hr => ?_⟩
        obtain ⟨i', rfl⟩ : ∃ i', i = i' + 1 := ⟨i - 1, by omega⟩
        rw [List.getElem?_cons_succ] at hr
        exact ih.out i' r' (by omega) hr
      · have e : bh ts (r :: c) = 0 := by
          show (if bh ts c ≠ 0 then bh ts c + 1 else if numR r ∈ ts then 1 else 0) = _
          rw [if_neg h, if_neg m]
        rw [e]
        refine ⟨Nat.zero_le _, fun z => absurd rfl z, fun i r' hi hr => ?_⟩
        cases i with
        | zero =>
          have : r = r' := by simpa using hr
          rw [← this]
          exact m
        | succ i' =>
          rw [List.getElem?_cons_succ] at hr
          exact ih.out i' r' (by omega) hr
theorem IsBh.uniq {ts : List Int} {c : Col} {i j : Nat} (h : IsBh ts c i) (k : IsBh ts c j) : i = j := by
  rcases Nat.lt_trichotomy i j with z | z | z
  · obtain ⟨r, h1, h2⟩ := k.at' (by omega)
    exact absurd h2 (h.out _ r (by omega) h1)
  · exact z
  · obtain ⟨r, h1, h2⟩ := h.at' (by omega)
    exact absurd h2 (k.out _ r (by omega) h1)
/-- what is told: nothing, or numbers -/
noncomputable def TolV (K : PySem.W.Frag) (H : Hp) (v : V) : Option (List Int) → Prop
  | none => v = .non
  | some ts => ∃ t, v = .ref t ∧ SqT K H t (ts.map V.int)
theorem TolV.same {K : PySem.W.Frag} {H H' : Hp} {v : V} {tl : Option (List Int)} (s : Same H H') (h : TolV K H v tl) : TolV K H' v tl := by
  cases tl with
  | none => exact h
  | some ts =>
    obtain ⟨t, e, h⟩ := h
    exact ⟨t, e, s.tup h⟩
noncomputable def bhO (tl : Option (List Int)) (c : Col) : Nat := match tl with
  | none => c.length
  | some ts => bh ts c
theorem bhO_le (tl : Option (List Int)) (c : Col) : bhO tl c ≤ c.length := by
  cases tl with
  | none => exact Nat.le_refl _
  | some ts => exact (isBh_bh ts c).le
noncomputable def layC (tl : Option (List Int)) (b : List Key) (c : Col) : Col := c.take (bhO tl c) ++ [b] ++ c.drop (bhO tl c)
theorem layC_none (b : List Key) (c : Col) : layC none b c = c ++ [b] := by
  unfold layC bhO
  rw [List.take_length, List.drop_length, List.append_nil]
theorem IsBs.congr {C C' : List Col} {T : Col} (h : IsBs C T) (e : ∀ r, (∃ c ∈ C, r ∈ c) ↔ ∃ c ∈ C', r ∈ c) : IsBs C' T := ⟨h.so, fun r => (h.mem r).trans (e r)⟩
theorem inV_ints (x : Int) : ∀ (L : List Int), inV (.int x) (L.map V.int) = decide (x ∈ L)
  | [] => by
    rw [decide_eq_false (by simp)]
    rfl
  | y :: L => by
    have ih := inV_ints x L
    have e : inV (.int x) ((y :: L).map V.int) = ((y == x) || inV (.int x) (L.map V.int)) := rfl
    rw [e, ih, Bool.eq_iff_iff]
    simp only [Bool.or_eq_true, beq_iff_eq, decide_eq_true_eq, List.mem_cons]
    exact ⟨fun h => h.imp Eq.symm id, fun h => h.imp Eq.symm id⟩
theorem flat_ints : ∀ L : List Int, (L.map V.int).all flatV = true
  | [] => rfl
  | _ :: L => by
    show (true && (L.map V.int).all flatV) = true
    rw [flat_ints L]
    rfl
theorem isBh0 (ts : List Int) : IsBh ts [] 0 := isBh_bh ts []
theorem isBh_in {ts : List Int} {c : Col} {r : List Key} (h : numR r ∈ ts) : IsBh ts (c ++ [r]) (c.length + 1) := by
  refine ⟨by simp, fun _ => ⟨r, by simp, h⟩, fun i r' hi hr => ?_⟩
  have := (List.getElem?_eq_some_iff.mp hr).1
  rw [List.length_append] at this
  have : c.length + 1 ≤ i := hi
  simp at *
  omega
theorem isBh_out {ts : List Int} {c : Col} {r : List Key} {j : Nat} (k : IsBh ts c j) (h : ¬ numR r ∈ ts) : IsBh ts (c ++ [r]) j := by
  have le := k.le
  refine ⟨by rw [List.length_append]; omega, fun h0 => ?_, fun i r' hi hr => ?_⟩
  · obtain ⟨r', h1, h2⟩ := k.at' h0
    exact ⟨r', by rw [List.getElem?_append_left (by omega)]; exact h1, h2⟩
  · rcases Nat.lt_or_ge i c.length with z | z
    · rw [List.getElem?_append_left z] at hr
      exact k.out i r' hi hr
    · have hl := (List.getElem?_eq_some_iff.mp hr).1
      rw [List.length_append] at hl
      have e : i = c.length := by
        have : i < c.length + 1 := hl
        omega
      subst e
      rw [List.getElem?_append_right (Nat.le_refl _), Nat.sub_self] at hr
      have : r = r' := by simpa using hr
      rw [← this]
      exact h
end L2
namespace L2
open PySem PySem.Spec PyProof.Rows
section
variable {K : PySem.W.Frag} {H6 H H' : Hp} {lb dd dl : Addr} {bs : List V} {kd kl : List (Key × V)} {B : List Col} {fD fL : Nat → Option Col}
end
end L2
namespace L2
open PySem PySem.Spec PyProof.Rows
/-- a def with defaults, as its callers take it -/
structure DfD (P : Program) (w : World) (K : PySem.W.Frag) (mg : Str → Option Value) (base : Heap) (k : Nat) (x : Str) (ps : List Str) (sp : Sp) (ds : List Value) : Prop where
  ex : ∃ f fd, FnOk P w K mg base CX0 k f fd ps sp ∧ Binds K fd ps [] ∧ Binds K fd ps ds ∧ mg x = some (.ref f) ∧ PySem.W.keepIn K (.ref f) = true
theorem DfD.df {P : Program} {w : World} {K : PySem.W.Frag} {mg : Str → Option Value} {base : Heap} {k : Nat} {x : Str} {ps : List Str} {sp : Sp} {ds : List Value} (D : DfD P w K mg base k x ps sp ds) : Df P w K mg base k x ps sp := by
  obtain ⟨f, fd, F, b, _, m, kp⟩ := D.ex
  exact ⟨f, fd, F, b, m, kp⟩
structure TxD (K : PySem.W.Frag) (mg : Str → Option Value) (x : Str) (st : Stmt) (ps : List Str) (ds : List Value) : Prop where
  ex : ∃ (f : Addr) (oc : Value) (od : Option Addr) (osl : Array (Option Value)) (dV kV doc pm : Value) (an : Option Addr) (cdv ct : Value),
    K.lookup f = some ⟨oc, od, .func (PySem.W.fnOf x x (defArgs st) (defBody st) (defScope st) dV kV doc pm an cdv ct), osl⟩ ∧ PySem.W.codeIn K cdv x = true ∧ PySem.W.keepIn K (.ref f) = true ∧
    Binds K (PySem.W.fnOf x x (defArgs st) (defBody st) (defScope st) dV kV doc pm an cdv ct) ps [] ∧ Binds K (PySem.W.fnOf x x (defArgs st) (defBody st) (defScope st) dV kV doc pm an cdv ct) ps ds ∧ mg x = some (.ref f)
theorem TxD.dfD {P : Program} {w : World} {K : PySem.W.Frag} {mg : Str → Option Value} {base : Heap} {x : Str} {st : Stmt} {N ps : List Str} {k : Nat} {sp : Sp} {ds : List Value} (T : TxD K mg x st ps ds) (S : FnScope N ps (defScope st))
    (len : ∀ vs H Q E, sp vs H Q E → vs.length = ps.length)
    (hbody : ∀ (f : Addr) (cdv : Value) (A : Around) (outer : List Env) (s : Shared) (H : Hp) (vs : List V) (Q : VK) (E : XK), Room k (A.deeper (envOfC x (defScope st) s.heap.objs.size f cdv)) → sp vs H Q E →
      ∃ t, PSs (cxOf CX0 P w K mg base N x (defScope st) f cdv A outer s H E).nox (defBody st) t ∧ t { nx := fun _ H' => Q .non H', rt := Q } (start N vs) H) : DfD P w K mg base (k + 1) x ps sp ds := by
  obtain ⟨f, oc, od, osl, dV, kV, doc, pm, an, cdv, ct, l, c, kp, b1, b2, hm⟩ := T.ex
  refine ⟨f, _, fn_of l c S len fun A outer s H vs Q E hr hsp => ?_, b1, b2, hm, kp⟩
  obtain ⟨t, h, q⟩ := hbody f cdv A outer s H vs Q E hr hsp
  exact ⟨t, h.nox, q⟩
theorem txD_mk {K : PySem.W.Frag} {h : Heap} {mg : Str → Option Value} {x : Str} {st : Stmt} {ps : List Str} {ds : List Value} {f : Addr} {oc : Value} {od an : Option Addr} {osl : Array (Option Value)} {dV kV doc pm cdv ct : Value} (X : K.In h) (G : h.Ns mainGlobals mg)
    (a : PySem.W.nsIn K mainGlobals x = some (some (.ref f)))
    (l : K.lookup f = some ⟨oc, od, .func (PySem.W.fnOf x x (defArgs st) (defBody st) (defScope st) dV kV doc pm an cdv ct), osl⟩)
    (c : PySem.W.codeIn K cdv x = true) (k : PySem.W.keepIn K (.ref f) = true)
    (b1 : ∀ us : List Value, us.length = ps.length → ∀ S, PySem.W.peek K S (bindArgs (PySem.W.fnOf x x (defArgs st) (defBody st) (defScope st) dV kV doc pm an cdv ct) ⟨us, []⟩) = some (ps.zip us))
    (b2 : ∀ us : List Value, (us ++ ds).length = ps.length → ∀ S, PySem.W.peek K S (bindArgs (PySem.W.fnOf x x (defArgs st) (defBody st) (defScope st) dV kV doc pm an cdv ct) ⟨us, []⟩) = some (ps.zip (us ++ ds))) : TxD K mg x st ps ds := by
  refine ⟨f, oc, od, osl, dV, kV, doc, pm, an, cdv, ct, l, c, k, fun s us X' hl => ?_, fun s us X' hl => PySem.W.kp_binds X' (b2 us hl), PySem.W.mg_of X G a⟩
  rw [List.append_nil] at hl ⊢
  exact PySem.W.kp_binds X' (b1 us hl)
section
variable {X : Cx}
theorem pe_dfD {j k : Nat} {x : Str} {ps : List Str} {sp : Sp} {ds : List Value} {dvs : List V} {p pos : Pos} {e : Expr} {es : List Expr} {t : TA} (D : DfD X.prog X.w X.K X.mg X.base j x ps sp ds) (hr : Room k X.A) (hd : Vals dvs ds) (ha : PA X (e :: es) t) (hg : Gl X x := by rfl) (hj : j ≤ k := by decide)
    (hdb : (x == ("__debug__" : Str)) = false := by decide) (he : starEach (e :: es) X.env = (false, eval e X.env) :: starEach es X.env := by rfl) (hpl : (backTo pos (starEach es X.env)).any (·.1) = false := by rfl) :
    PE X (.Call (.Name x p) (e :: es) [] pos) (tCall sp dvs E0 t) := by
  obtain ⟨f, fd, F, _, b, hm, kp⟩ := D.ex
  exact pe_call (ds := ds) (dvs := dvs) (E := E0) (p := p) (pos := pos) F (hr.mono hj) hg hm kp b hd pass0 ha hdb he hpl
end
theorem three {ps : List Str} {d : Value} (us : List Value) (hl : (us ++ [d]).length = ps.length) (h4 : ps.length = 4 := by rfl) : ∃ a b c, us = [a, b, c] := by
  rw [h4, List.length_append] at hl
  match us, hl with
  | [a, b, c], _ => exact ⟨a, b, c, rfl⟩
  | [], hl => cases hl
  | [_], hl => cases hl
  | [_, _], hl => cases hl
  | _ :: _ :: _ :: _ :: us, hl => simp at hl
end L2
namespace L2
open PySem PySem.Spec PyProof.Rows
/-- those from a number on, up to (without) another that stands behind -/
noncomputable def pasC (n h : Int) (c : Col) : Col := if anyN h c = true then ((c.takeWhile fun r => decide (numR r ≠ h)).dropWhile fun r => decide (numR r ≠ n)) else []
theorem anyN_true {n : Int} {c : Col} : anyN n c = true ↔ ∃ r ∈ c, numR r = n := by
  unfold anyN
  rw [List.any_eq_true]
  exact ⟨fun ⟨r, h, e⟩ => ⟨r, h, of_decide_eq_true e⟩, fun ⟨r, h, e⟩ => ⟨r, h, decide_eq_true e⟩⟩
theorem anyN_false {n : Int} {c : Col} (h : ∀ r ∈ c, numR r ≠ n) : anyN n c = false := by
  cases e : anyN n c with
  | false => rfl
  | true =>
    obtain ⟨r, hr, e⟩ := anyN_true.mp e
    exact absurd e (h r hr)
theorem FstN.any {n : Int} {c : Col} {i : Nat} (h : FstN n c i) : anyN n c = true := by
  obtain ⟨r, hr, e, _⟩ := h
  exact anyN_true.mpr ⟨r, List.mem_of_getElem? hr, e⟩
theorem dw_all {n : Int} : ∀ {c : Col}, (∀ r ∈ c, numR r ≠ n) → (c.dropWhile fun r => decide (numR r ≠ n)) = []
  | [], _ => rfl
  | r :: c, h => by
    rw [List.dropWhile_cons, if_pos (decide_eq_true (h r (List.mem_cons_self ..))), dw_all fun r' h' => h r' (List.mem_cons_of_mem _ h')]
theorem FstN.before {n : Int} {c : Col} {i : Nat} (h : FstN n c i) : ∀ r ∈ c.take i, numR r ≠ n := fun r hr => by
  obtain ⟨_, _, _, hn⟩ := h
  obtain ⟨j, hj, e⟩ := List.getElem_of_mem hr
  rw [List.length_take] at hj
  rw [List.getElem_take] at e
  exact hn j r (by omega) (by rw [List.getElem?_eq_getElem (by omega), e])
theorem FstN.split {n : Int} {c : Col} {i : Nat} (h : FstN n c i) : ∃ r, numR r = n ∧ c[i]? = some r ∧ c = c.take i ++ r :: c.drop (i + 1) := by
  obtain ⟨r, hr, e, _⟩ := h
  obtain ⟨hi, e'⟩ := List.getElem?_eq_some_iff.mp hr
  exact ⟨r, e, hr, by rw [← e', List.getElem_cons_drop, List.take_append_drop]⟩
theorem FstN.lt {n : Int} {c : Col} {i : Nat} (h : FstN n c i) : i < c.length := by
  obtain ⟨r, hr, _⟩ := h
  exact (List.getElem?_eq_some_iff.mp hr).1
theorem tw_at {n : Int} {c : Col} {i : Nat} (h : FstN n c i) : (c.takeWhile fun r => decide (numR r ≠ n)) = c.take i := by
  obtain ⟨r, e, _, sp⟩ := h.split
  conv => lhs; rw [sp]
  rw [List.takeWhile_append_of_pos (fun a ha => decide_eq_true (h.before a ha)), List.takeWhile_cons, if_neg (by simp [e]), List.append_nil]
theorem dw_at {n : Int} {c : Col} {i : Nat} (h : FstN n c i) : (c.dropWhile fun r => decide (numR r ≠ n)) = c.drop i := by
  obtain ⟨r, e, hr0, sp⟩ := h.split
  conv => lhs; rw [sp]
  rw [List.dropWhile_append_of_pos (fun a ha => decide_eq_true (h.before a ha)), List.dropWhile_cons, if_neg (by simp [e])]
  obtain ⟨hl, e'⟩ := List.getElem?_eq_some_iff.mp hr0
  rw [← e', List.getElem_cons_drop]
theorem pas_at {n h : Int} {c : Col} {i j : Nat} (hi : FstN n c i) (hj : FstN h c j) : pasC n h c = (c.drop i).take (j - i) := by
  unfold pasC
  rw [if_pos hj.any, tw_at hj]
  have jl := hj.lt
  by_cases lt : i < j
  · have f : FstN n (c.take j) i := by
      obtain ⟨r, hr, e, hn⟩ := hi
      refine ⟨r, ?_, e, fun k r' hk hr' => ?_⟩
      · rw [List.getElem?_take_of_lt lt]; exact hr
      · rw [List.getElem?_take_of_lt (by omega)] at hr'
        exact hn k r' hk hr'
    rw [dw_at f, List.drop_take]
  · rw [show j - i = 0 by omega, List.take_zero]
    refine dw_all fun r hr => ?_
    obtain ⟨_, _, _, hn⟩ := hi
    obtain ⟨k, hk, e⟩ := List.getElem_of_mem hr
    rw [List.length_take] at hk
    rw [List.getElem_take] at e
    exact hn k r (by omega) (by rw [List.getElem?_eq_getElem (by omega), e])
theorem pas_no1 {n h : Int} {c : Col} (hn : ∀ r ∈ c, numR r ≠ n) : pasC n h c = [] := by
  unfold pasC
  split
  · exact dw_all fun r hr => hn r ((List.takeWhile_sublist _).subset hr)
  · rfl
theorem pas_no2 {n h : Int} {c : Col} (hn : ∀ r ∈ c, numR r ≠ h) : pasC n h c = [] := by
  unfold pasC
  rw [anyN_false hn]
  rfl
/-- a column in which one has passed -/
noncomputable def waiC (n h : Int) (c : Col) : Col := if pasC n h c = [] then c else c.flatMap fun r => (if numR r = n then c.filter (fun x => decide (numR x = h)) else []) ++ (if numR r = h then [] else [r])
theorem flat_other {n h : Int} {X : Col} : ∀ {l : Col}, (∀ r ∈ l, numR r ≠ n ∧ numR r ≠ h) → (l.flatMap fun r => (if numR r = n then X else []) ++ (if numR r = h then [] else [r])) = l
  | [], _ => rfl
  | r :: l, hl => by
    obtain ⟨h1, h2⟩ := hl r (List.mem_cons_self ..)
    rw [List.flatMap_cons, if_neg h1, if_neg h2, flat_other fun r' h' => hl r' (List.mem_cons_of_mem _ h')]
    rfl
theorem filter_one {h : Int} {c : Col} (nd : (c.map numR).Nodup) {j : Nat} (hj : FstN h c j) {r : List Key} (hr : c[j]? = some r) : (c.filter fun x => decide (numR x = h)) = [r] := by
  obtain ⟨r', e, hr', sp⟩ := hj.split
  rw [hr] at hr'
  cases hr'
  obtain ⟨_, h1, h2⟩ := nd_split nd hr
  rw [e] at h1 h2
  conv => lhs; rw [sp]
  rw [List.filter_append, List.filter_cons_of_pos (by simp [e]), List.filter_eq_nil_iff.mpr (fun x hx => by simpa using h1 x hx), List.filter_eq_nil_iff.mpr (fun x hx => by simpa using h2 x hx)]
  rfl
theorem wai_at {n h : Int} {c : Col} (nd : (c.map numR).Nodup) {i j : Nat} (hi : FstN n c i) (hj : FstN h c j) {r : List Key} (hr : c[j]? = some r) (ne : pasC n h c ≠ []) : waiC n h c = c.take i ++ [r] ++ pasC n h c ++ c.drop (j + 1) := by
  have lt : i < j := by
    refine Decidable.byContradiction fun z => ne ?_
    rw [pas_at hi hj, show j - i = 0 by omega, List.take_zero]
  have jl := hj.lt
  unfold waiC
  rw [if_neg ne, filter_one nd hj hr, pas_at hi hj]
  obtain ⟨rn, en, hrn, sp⟩ := hi.split
  obtain ⟨r', eh, hr', sp2⟩ := hj.split
  rw [hr] at hr'
  cases hr'
  obtain ⟨_, n1, n2⟩ := nd_split nd hrn
  obtain ⟨_, m1, m2⟩ := nd_split nd hr
  rw [en] at n1 n2
  rw [eh] at m1 m2
  have nh : n ≠ h := fun z => by
    have := hj.before rn (by
      rw [List.mem_iff_getElem?]
      exact ⟨i, by rw [List.getElem?_take_of_lt lt]; exact hrn⟩)
    exact this (en.trans z)
  -- the middle
  have mid : c.drop i = rn :: (c.drop (i + 1)) := by
    obtain ⟨hi', e'⟩ := List.getElem?_eq_some_iff.mp hrn
    rw [← e', List.getElem_cons_drop]
  have split3 : c.drop (i + 1) = (c.drop (i + 1)).take (j - (i + 1)) ++ r :: c.drop (j + 1) := by
    conv => lhs; rw [← List.take_append_drop (j - (i + 1)) (c.drop (i + 1))]
    congr 1
    rw [List.drop_drop, show (i + 1) + (j - (i + 1)) = j by omega]
    obtain ⟨hj', e'⟩ := List.getElem?_eq_some_iff.mp hr
    rw [← e', List.getElem_cons_drop]
  have pm : (c.drop i).take (j - i) = rn :: (c.drop (i + 1)).take (j - (i + 1)) := by
    rw [mid, show j - i = (j - (i + 1)) + 1 by omega, List.take_succ_cons]
  rw [pm]
  have cc : c = c.take i ++ rn :: ((c.drop (i + 1)).take (j - (i + 1)) ++ r :: c.drop (j + 1)) := by rw [← split3]; exact sp
  have o1 : ∀ x ∈ c.take i, numR x ≠ n ∧ numR x ≠ h := fun x hx => ⟨n1 x hx, m1 x (by
    rw [show i = min i j by omega, ← List.take_take] at hx
    exact List.mem_of_mem_take hx)⟩
  have o2 : ∀ x ∈ (c.drop (i + 1)).take (j - (i + 1)), numR x ≠ n ∧ numR x ≠ h := fun x hx => ⟨n2 x (List.mem_of_mem_take hx), m1 x (by
    rw [show j - (i + 1) = j - (i + 1) from rfl, ← List.drop_take] at hx
    exact List.mem_of_mem_drop hx)⟩
  have o3 : ∀ x ∈ c.drop (j + 1), numR x ≠ n ∧ numR x ≠ h := fun x hx => ⟨n2 x (by
    rw [show j + 1 = (i + 1) + (j - i) by omega, ← List.drop_drop] at hx
    exact List.mem_of_mem_drop hx), m2 x hx⟩
  generalize (c.drop (i + 1)).take (j - (i + 1)) = Bm at cc o2 ⊢
  generalize c.take i = Am at cc o1 ⊢
  generalize c.drop (j + 1) = Dm at cc o3 ⊢
  rw [cc, List.flatMap_append, List.flatMap_cons, List.flatMap_append, List.flatMap_cons, flat_other o1, flat_other o2, flat_other o3, if_pos en, if_neg (fun z => nh (en.symm.trans z)), if_neg (fun z => nh (z.symm.trans eh)), if_pos eh]
  simp
end L2
namespace L2
open PySem PySem.Spec PyProof.Rows
section
variable {K : PySem.W.Frag} {H H' : Hp}
theorem val_mem {kvs : List (Key × V)} {k : Key} {v : V} (h : valV kvs k = some v) : ∃ kv ∈ kvs, kv.1 = k := by
  unfold valV at h
  cases e : kvs.find? (fun kv => decide (kv.1 = k)) with
  | none => rw [e] at h; cases h
  | some kv => exact ⟨kv, List.mem_of_find?_eq_some e, by simpa using List.find?_some e⟩
theorem SameX.refl (d : Addr) (H : Hp) : SameX d H H := fun _ _ _ e => e
end
end L2
namespace L2
open PySem PyProof.Rows
section
variable {prog : Program} {w : World} {A : Around} {E : Value → Shared → Prop} {s : Shared}
end
end L2
namespace L2
open PySem PyProof.Rows
end L2
namespace L2
open PySem PyProof.Rows
section
variable {prog : Program} {w : World} {A : Around} {E : Value → Shared → Prop} {s : Shared}
end
end L2
namespace L2
open PySem PyProof.Rows
end L2
namespace L2
open PySem PyProof.Rows
section
variable {prog : Program} {w : World} {A : Around} {E : Value → Shared → Prop} {s : Shared}
end
end L2
namespace L2
open PySem PyProof.Rows
section
variable {prog : Program} {w : World} {A : Around} {E : Value → Shared → Prop} {s : Shared} {a₀ : Array Keyed} {z : SortSt} {lo : Nat}
end
end L2
namespace L2
open PySem PyProof.Rows
section
variable {prog : Program} {w : World} {A : Around} {E : Value → Shared → Prop} {s : Shared} {a₀ : Array Keyed} {z : SortSt} {lo : Nat}
end
end L2
namespace L2
open PySem PyProof.Rows
section
variable {prog : Program} {w : World} {A : Around} {E : Value → Shared → Prop} {s : Shared} {a₀ : Array Keyed}
end
end L2
namespace L2
open PySem PyProof.Rows
section
variable {prog : Program} {w : World} {A : Around} {E : Value → Shared → Prop} {s : Shared} {a₀ : Array Keyed}
end
end L2
namespace L2
open PySem PySem.Spec PyProof.Rows
section
variable {prog : Program} {w : World} {A : Around} {E : Value → Shared → Prop} {s : Shared} {D kS : Addr} {vs : List Value} {kz : List Int} {ky : List Value} {c1 c2 : Nat} {P : PySem.Fin → Shared → Prop}
end
section
variable {X : Cx} {k : Nat} {f : Addr} {fd : FuncData} {ps : List Str} {sp : Sp}
end
end L2
namespace L2
open PySem PySem.Spec PyProof.Rows LM
/-- at most as many strips as cells -/
theorem IsStr.len {g : Nat → Option Col} {R : Strp} (h : IsStr g R) : R.length ≤ 64 := by
  have nd : (R.map fun p => lowN p.1).Nodup := by
    rw [List.nodup_iff_pairwise_ne, List.pairwise_map]
    exact List.Pairwise.imp (fun {a b} z e => by omega) h.so
  have := List.Nodup.length_le_of_subset nd (l₂ := List.range 64) fun x hx => by
    obtain ⟨p, hp, rfl⟩ := List.mem_map.mp hx
    exact List.mem_range.mpr (low_lt (h.ok p hp).1 (by decide) (h.ok p hp).2.1)
  rw [List.length_map, List.length_range] at this
  exact this
/-- a column of the first burdens of a pool -/
noncomputable def OfP (rs : List (List Key)) (k : Nat) (c : Col) : Prop := (∀ r ∈ c, r ∈ rs.take k) ∧ (c.map numR).Nodup ∧ c.length ≤ k
theorem OfP.add {rs : List (List Key)} {k : Nat} {c : Col} {b : List Key} (h : OfP rs k c) (nd : (rs.map numR).Nodup) (e : rs[k]? = some b) : OfP rs (k + 1) (c ++ [b]) := by
  have tk : rs.take (k + 1) = rs.take k ++ [b] := by rw [List.take_add_one, e]; rfl
  refine ⟨fun r hr => ?_, ?_, by rw [List.length_append]; exact Nat.succ_le_succ h.2.2⟩
  · rw [tk]
    rcases List.mem_append.mp hr with z | z
    · exact List.mem_append_left _ (h.1 r z)
    · exact List.mem_append_right _ z
  · rw [List.map_append]
    refine List.nodup_append.mpr ⟨h.2.1, by simp, fun x hx y hy z => ?_⟩
    rw [List.map_cons, List.map_nil, List.mem_singleton] at hy
    obtain ⟨r, hr, e1⟩ := List.mem_map.mp hx
    have hin := h.1 r hr
    have ndt : ((rs.take (k + 1)).map numR).Nodup := List.Nodup.sublist ((List.take_sublist _ _).map numR) nd
    rw [tk, List.map_append, List.nodup_append] at ndt
    exact ndt.2.2 (numR r) (List.mem_map.mpr ⟨r, hin, rfl⟩) (numR b) (by simp) (by rw [e1, z, hy])
end L2
namespace L2
open PySem PySem.Spec PyProof.Rows LM
section
variable {X : Cx} {pins : List (Addr × Obj)} {σ : St} {H : Hp} {s : Shared}
/-- a dict that was walked may be written again, where the def found it unwalked -/
theorem Inv.thaw {a : Addr} {kvs : List (Key × V)} {o : Obj} (I : Inv X pins σ H s) (ha : H a = some (.frz o (.dK kvs))) (h0 : ∀ o' u, X.H₀ a ≠ some (.frz o' u)) : Inv X pins σ (upd H a (.dK kvs)) s := by
  have ne : ∀ {b : Addr} {u : HO}, H b = some u → u ≠ .frz o (.dK kvs) → b ≠ a := fun {b u} q d z => by
    rw [z, ha] at q
    exact d (Option.some.inj q).symm
  have nn : ∀ {b : Addr}, H b = none → b ≠ a := fun {b} q z => by rw [z, ha] at q; cases q
  refine ⟨I.ok, I.os, I.bare, ⟨I.base.keep, I.base.slot, fun b o' e1 n hx => ?_, I.base.there, fun b xs e1 => ?_, fun b o' u e1 => ?_, fun b ps e1 => ?_⟩, I.loc, I.cell, ?_, fun y c e1 => ?_, fun p hp => ?_, fun b u e1 => ?_, I.len⟩
  · have q := I.base.free b o' e1 n hx
    rw [upd_ne (nn q)]; exact q
  · have q := I.base.tups b xs e1
    rw [upd_ne (ne q (fun z => nomatch z))]; exact q
  · have q := I.base.frzs b o' u e1
    have nb : b ≠ a := fun z => h0 o' u (by rw [← z]; exact e1)
    rw [upd_ne nb]; exact q
  · obtain ⟨more, q⟩ := I.base.tbls b ps e1
    exact ⟨more, by rw [upd_ne (ne q (fun z => nomatch z))]; exact q⟩
  · rw [upd_ne (nn I.free)]; exact I.free
  · rw [upd_ne (nn (I.freeC y c e1))]; exact I.freeC y c e1
  · obtain ⟨a1, a2, a3⟩ := I.pin p hp
    exact ⟨a1, by rw [upd_ne (nn a2)]; exact a2, a3⟩
  · have st : ∀ {b : Addr} {u : HO}, ObjOk X.prog X.w H s.heap b u → ObjOk X.prog X.w (upd H a (.dK kvs)) s.heap b u := fun {b u} q =>
      q.stay (fun _ _ _ z => z) (fun c z => by rw [upd_ne (ne z (fun y => nomatch y))]; exact z) fun c xs z => by rw [upd_ne (ne z (fun y => nomatch y))]; exact z
    by_cases hb : b = a
    · subst hb
      rw [upd_same] at e1
      cases e1
      exact st (I.hok b _ ha).2
    · rw [upd_ne hb] at e1
      exact st (I.hok b u e1)
noncomputable def sThaw (X : Cx) (t : TS) : TS := fun D σ H => t { D with nx := fun σ' H' => ∃ d o kvs, H' d = some (.frz o (.dK kvs)) ∧ (∀ o' u, X.H₀ d ≠ some (.frz o' u)) ∧ D.nx σ' (upd H' d (.dK kvs)) } σ H
theorem ps_thaw {st : Stmt} {t : TS} (h : PS X st t) : PS X st (sThaw X t) := by
  intro pins s σ H D I q
  refine thn (h pins s σ H _ I q) fun f s' z => ?_
  cases f with
  | next =>
    obtain ⟨σ', H', I', d, o, kvs, hd, h0, q'⟩ := z
    exact ⟨σ', _, I'.thaw hd h0, q'⟩
  | brk => exact z
  | cont => exact z
  | ret u => exact z
theorem keys_of {P : Program} {w : World} {ws : List (Key × Value)} : ∀ {kvs : List (Key × V)} {us : List Value}, KV kvs ws → us.length = ws.length → (∀ (j : Nat) (v : Value), us[j]? = some v → ∃ k x, ws[j]? = some (k, x) ∧ (mixKind P w).is k v = true) → Vals (kvs.map fun q => kV q.1) us := by
  intro kvs us r
  induction r generalizing us with
  | nil =>
    intro hl _
    cases us with
    | nil => exact .nil
    | cons _ _ => cases hl
  | @cons kv wv _ _ a _ ih =>
    intro hl h
    cases us with
    | nil => cases hl
    | cons u us =>
      obtain ⟨k, x, e, hk⟩ := h 0 u rfl
      have e' : wv = (k, x) := by simpa using e
      refine .cons ?_ (ih (by simpa using hl) fun j v hv => by
        obtain ⟨k', x', e1, e2⟩ := h (j + 1) v (by simpa using hv)
        exact ⟨k', x', by simpa using e1, e2⟩)
      have e3 : kv.1 = k := by rw [a.1, e']
      show RelV (kV kv.1) u
      rw [e3]
      exact rel_key hk
/-- list(d) -/
theorem call_listD (hc : X.calm = true) : CallR X (.type "list") (fun xs H Q => ∃ d kvs, xs = [.ref d] ∧ Rd H d (.dK kvs) ∧ ∀ l, H l = none → Q (.ref l) (upd H l (.lst (kvs.map fun q => kV q.1)))) := by
  intro pins s σ H xs us Q I r h
  obtain ⟨d, kvs, rfl, hx, q⟩ := h
  obtain ⟨u, rfl, ru⟩ := vals1 r
  cases ru
  have ho : ObjOk X.prog X.w H s.heap d (.dK kvs) := by
    rcases hx with hx | ⟨o, hx⟩
    · exact I.hok d _ hx
    · exact (I.hok d _ hx).2
  obtain ⟨hz, hs, ws, rv, hD⟩ := ho
  obtain ⟨ep, hat⟩ := hD.dictAt
  have hl := rv.len
  refine PySem.W.kdl_call (PySem.W.kdl_dict (knd := mixKind X.prog X.w) (kvs := ws) (ep := ep) hs) (I.ok.hd hc) hat (by omega) fun h' tk acc c' hk hS hacc => ?_
  have al : acc.toList.length = ws.length := by rw [Array.length_toList, hacc.1]
  refine ⟨.ref s.heap.objs.size, _, I.laid (t' := tk) (o := .lst (kvs.map fun q => kV q.1)) hk (Nat.le_refl _) ⟨by rw [List.length_map]; exact hz, acc.toList, c', keys_of rv al fun j v hv => hacc.2 j v (by rw [← Array.getElem?_toList]; exact hv), by simpa using hS⟩, rfl, q _ (I.hok.fresh (Nat.le_refl _))⟩
end
/-- a comprehension over a dict -/
theorem compD {d : Addr} {o : Obj} {kvs : List (Key × V)} {g : TG} {tt : TT} {te : TE} {σ0 : St} {Q : Hp → Prop} {D : Addr} {H : Hp} (Pv : Nat → List V → Hp → Prop) (h0 : Pv 0 [] H) (hl : ∀ i acc H, i ≤ kvs.length → Pv i acc H → H d = some (.frz o (.dK kvs)))
    (hs : ∀ i k v acc H2, kvs[i]? = some (k, v) → Pv i acc H2 → g (kV k) σ0 H2 fun σ2 H4 => tt σ2 H4 fun b H5 =>
      if b = true then te σ2 H5 fun y H6 => H6 D = some (.lst acc) ∧ acc.length < sizeLine ∧ Pv (i + 1) (acc ++ [y]) (upd H6 D (.lst (acc ++ [y]))) else Pv (i + 1) acc H5)
    (hd : ∀ acc H2, Pv kvs.length acc H2 → Q H2) :
    ∃ W : Nat → Nat → List V → Hp → Prop, (∃ m, W 0 m [] H) ∧ ∀ i m acc H2, W i m acc H2 →
      ((Itd d o kvs).stop i H2 ∧ Q H2) ∨ ((Itd d o kvs).go i H2 ∧ ∃ N : List V → Hp → Prop, (∀ acc' H', N acc' H' → ∃ m', m' < m ∧ W (i + 1) m' acc' H') ∧ ∀ x H3, (Itd d o kvs).yld i H2 x H3 → g x σ0 H3 fun σ2 H4 => tt σ2 H4 fun b H5 =>
        if b = true then te σ2 H5 fun y H6 => H6 D = some (.lst acc) ∧ acc.length < sizeLine ∧ N (acc ++ [y]) (upd H6 D (.lst (acc ++ [y]))) else N acc H5) := by
  refine ⟨fun i m acc H => m = kvs.length - i ∧ i ≤ kvs.length ∧ Pv i acc H, ⟨kvs.length, by simp, Nat.zero_le _, h0⟩, ?_⟩
  rintro i m acc H2 ⟨rfl, hi, p⟩
  have q := hl i acc H2 hi p
  by_cases hlt : i < kvs.length
  · refine .inr ⟨⟨q, hlt⟩, Pv (i + 1), fun acc' H' p' => ⟨kvs.length - (i + 1), by omega, rfl, hlt, p'⟩, fun x H3 y => ?_⟩
    obtain ⟨e, k, v, hk, rfl⟩ := y
    subst e
    exact hs i k v acc _ hk p
  · have e : i = kvs.length := by omega
    subst e
    exact .inl ⟨⟨q, Nat.le_refl _⟩, hd acc H2 p⟩
theorem nums_nd59 {rs : List (List Key)} {x : Int} {n : Nat} (hn : n ≤ 59) (h : rs.map (fun r => (numR r - 1) % 64) = (List.range n).map fun j : Nat => (37 * (0 + (j : Int)) + x) % 64) : (rs.map numR).Nodup := by
  have nd : ((List.range n).map fun j : Nat => (37 * (0 + (j : Int)) + x) % 64).Nodup := by
    rw [List.nodup_iff_pairwise_ne, List.pairwise_map]
    refine List.pairwise_iff_getElem.mpr fun i j hi hj hij e => ?_
    rw [List.length_range] at hi hj
    rw [List.getElem_range, List.getElem_range] at e
    omega
  rw [← h] at nd
  rw [List.nodup_iff_pairwise_ne, List.pairwise_map] at nd ⊢
  exact List.Pairwise.imp (fun {a b} w e => w (by rw [e])) nd
noncomputable def GoodD (c : Col) : Prop := (∀ r ∈ c, IsBur r) ∧ (c.map numR).Nodup ∧ c.length ≤ 60
theorem OfP.goodD {rs : List (List Key)} {k : Nat} {c : Col} (h : OfP rs k c) (hb : ∀ r ∈ rs, IsBur r) (hk : k ≤ 60) : GoodD c := ⟨fun r hr => hb r (List.mem_of_mem_take (h.1 r hr)), h.2.1, Nat.le_trans h.2.2 hk⟩
/-- what is of the first burdens and this one -/
theorem OfP.of {rs : List (List Key)} {k : Nat} {c d : Col} {b : List Key} (h : OfP rs k c) (nd : (rs.map numR).Nodup) (e : rs[k]? = some b) (p : ∃ l, d.Perm l ∧ l.Sublist (c ++ [b])) : OfP rs (k + 1) d := by
  obtain ⟨l, p1, p2⟩ := p
  obtain ⟨h1, h2, h3⟩ := h.add nd e
  refine ⟨fun r hr => h1 r (p2.subset (p1.mem_iff.mp hr)), ?_, ?_⟩
  · exact ((p1.map numR).nodup_iff).mpr (List.Nodup.sublist (p2.map numR) h2)
  · have := p2.length_le
    rw [← p1.length_eq] at this
    omega
theorem sub_lay (tl : Option (List Int)) (b : List Key) (c : Col) : ∃ l, (layC tl b c).Perm l ∧ l.Sublist (c ++ [b]) := by
  refine ⟨c ++ [b], ?_, List.Sublist.refl _⟩
  unfold layC
  have : (c.take (bhO tl c) ++ [b] ++ c.drop (bhO tl c)).Perm (c.take (bhO tl c) ++ c.drop (bhO tl c) ++ [b]) := by
    rw [List.append_assoc, List.append_assoc]
    exact List.Perm.append_left _ List.perm_append_comm
  rw [List.take_append_drop] at this
  exact this
theorem sub_wo (n : Int) (b : List Key) (c : Col) : ∃ l, (wo n c).Perm l ∧ l.Sublist (c ++ [b]) := ⟨wo n c, List.Perm.refl _, List.filter_sublist.trans (List.sublist_append_left _ _)⟩
theorem sub_id (b : List Key) (c : Col) : ∃ l, c.Perm l ∧ l.Sublist (c ++ [b]) := ⟨c, List.Perm.refl _, List.sublist_append_left _ _⟩
theorem fst_ex {n : Int} : ∀ {c : Col}, anyN n c = true → ∃ i, FstN n c i
  | r :: c, h => by
    by_cases e : numR r = n
    · exact ⟨0, r, rfl, e, fun j _ hj => absurd hj (Nat.not_lt_zero _)⟩
    · have : anyN n c = true := by
        obtain ⟨x, hx, ex⟩ := anyN_true.mp h
        rcases List.mem_cons.mp hx with z | z
        · rw [z] at ex; exact absurd ex e
        · exact anyN_true.mpr ⟨x, z, ex⟩
      obtain ⟨i, r', h1, h2, h3⟩ := fst_ex this
      refine ⟨i + 1, r', by rw [List.getElem?_cons_succ]; exact h1, h2, fun j r'' hj hr => ?_⟩
      cases j with
      | zero =>
        have : r = r'' := by simpa using hr
        rw [← this]; exact e
      | succ j =>
        rw [List.getElem?_cons_succ] at hr
        exact h3 j r'' (by omega) hr
theorem sub_fil {n : Int} {b : List Key} {c : Col} (nd : (c.map numR).Nodup) : ∃ l, (filC n b c).Perm l ∧ l.Sublist (c ++ [b]) := by
  cases ha : anyN n c with
  | false =>
    rw [filC_none fun r hr e => by rw [anyN_true.mpr ⟨r, hr, e⟩] at ha; cases ha]
    exact ⟨_, List.Perm.refl _, List.Sublist.refl _⟩
  | true =>
    obtain ⟨i, hi⟩ := fst_ex ha
    rw [filC_at nd hi]
    refine ⟨c.take i ++ c.drop (i + 1) ++ [b], ?_, List.Sublist.append ?_ (List.Sublist.refl _)⟩
    · rw [List.append_assoc, List.append_assoc]
      exact List.Perm.append_left _ List.perm_append_comm
    · conv => rhs; rw [← List.take_append_drop i c]
      refine List.Sublist.append (List.Sublist.refl _) ?_
      rw [show i + 1 = i + 1 from rfl, ← List.drop_drop]
      exact List.drop_sublist _ _
theorem pas_ex {n h : Int} {c : Col} (ne : pasC n h c ≠ []) : ∃ i j, FstN n c i ∧ FstN h c j := by
  have a1 : anyN n c = true := by
    cases e : anyN n c with
    | true => rfl
    | false => exact absurd (pas_no1 fun r hr z => by rw [anyN_true.mpr ⟨r, hr, z⟩] at e; cases e) ne
  have a2 : anyN h c = true := by
    cases e : anyN h c with
    | true => rfl
    | false => exact absurd (pas_no2 fun r hr z => by rw [anyN_true.mpr ⟨r, hr, z⟩] at e; cases e) ne
  obtain ⟨i, hi⟩ := fst_ex a1
  obtain ⟨j, hj⟩ := fst_ex a2
  exact ⟨i, j, hi, hj⟩
/-- as a walk tells it: those ahead, then the one that passes, then the others -/
theorem wai_walk {n h : Int} {c : Col} (nd : (c.map numR).Nodup) {i : Nat} (hi : FstN n c i) : c.take i ++ (c.drop i).filter (fun x => decide (numR x = h)) ++ (c.drop i).filter (fun x => decide (numR x ≠ h)) = waiC n h c := by
  have il := hi.lt
  cases ha : anyN h (c.drop i) with
  | false =>
    have hno : ∀ r ∈ c.drop i, numR r ≠ h := fun r hr e => by rw [anyN_true.mpr ⟨r, hr, e⟩] at ha; cases ha
    rw [List.filter_eq_nil_iff.mpr (fun x hx => by simpa using hno x hx), List.filter_eq_self.mpr (fun x hx => by simpa using hno x hx), List.append_nil, List.take_append_drop]
    unfold waiC
    rw [if_pos]
    refine Decidable.byContradiction fun ne => ?_
    obtain ⟨i', j, hi', hj⟩ := pas_ex ne
    have ei : i' = i := by
      obtain ⟨r, h1, h2, h3⟩ := hi
      obtain ⟨r', h1', h2', h3'⟩ := hi'
      rcases Nat.lt_trichotomy i' i with z | z | z
      · exact absurd h2' (h3 i' r' z h1')
      · exact z
      · exact absurd h2 (h3' i r z h1)
    subst ei
    refine ne ?_
    rw [pas_at hi' hj]
    have : j < i' := Decidable.byContradiction fun z => by
      obtain ⟨r, h1, h2, _⟩ := hj
      refine hno r ?_ h2
      rw [List.mem_iff_getElem?]
      exact ⟨j - i', by rw [List.getElem?_drop, show i' + (j - i') = j by omega]; exact h1⟩
    rw [show j - i' = 0 by omega, List.take_zero]
  | true =>
    obtain ⟨j', hj'⟩ := fst_ex ha
    obtain ⟨r, hr, er, hn⟩ := hj'
    rw [List.getElem?_drop] at hr
    have hj : FstN h c (i + j') := by
      refine ⟨r, hr, er, fun k r' hk hr' e' => ?_⟩
      have hd := nd_split nd hr
      have : r' ∈ c.take (i + j') := by
        rw [List.mem_iff_getElem?]
        exact ⟨k, by rw [List.getElem?_take_of_lt hk]; exact hr'⟩
      exact hd.2.1 r' this (e'.trans er.symm)
    obtain ⟨_, m1, m2⟩ := nd_split nd hr
    rw [er] at m1 m2
    have jl := hj.lt
    -- the part from i on
    have sp : c.drop i = (c.drop i).take j' ++ r :: c.drop (i + j' + 1) := by
      conv => lhs; rw [← List.take_append_drop j' (c.drop i), List.drop_drop]
      congr 1
      obtain ⟨hl, e'⟩ := List.getElem?_eq_some_iff.mp hr
      rw [← e', List.getElem_cons_drop]
    have f1 : ∀ x ∈ (c.drop i).take j', numR x ≠ h := fun x hx => m1 x (by
      rw [show j' = i + j' - i by omega, ← List.drop_take] at hx
      exact List.mem_of_mem_drop hx)
    have e1 : (c.drop i).filter (fun x => decide (numR x = h)) = [r] := by
      rw [sp, List.filter_append, List.filter_cons_of_pos (by simp [er]), List.filter_eq_nil_iff.mpr (fun x hx => by simpa using f1 x hx), List.filter_eq_nil_iff.mpr (fun x hx => by simpa using m2 x hx)]
      rfl
    have e2 : (c.drop i).filter (fun x => decide (numR x ≠ h)) = (c.drop i).take j' ++ c.drop (i + j' + 1) := by
      conv => lhs; rw [sp]
      rw [List.filter_append, List.filter_cons_of_neg (by simp [er]), List.filter_eq_self.mpr (fun x hx => by simpa using f1 x hx), List.filter_eq_self.mpr (fun x hx => by simpa using m2 x hx)]
    rw [e1, e2]
    have pe := pas_at hi hj
    rw [show i + j' - i = j' by omega] at pe
    by_cases h0 : pasC n h c = []
    · have hw : waiC n h c = c := by unfold waiC; rw [if_pos h0]
      have z : (c.drop i).take j' = [] := by rw [← pe]; exact h0
      have j0 : j' = 0 := by
        have := congrArg List.length z
        rw [List.length_take, List.length_drop] at this
        simp at this
        omega
      rw [hw, z, List.nil_append, List.append_assoc]
      subst j0
      rw [List.take_zero, List.nil_append] at sp
      have : [r] ++ c.drop (i + 0 + 1) = c.drop i := sp.symm
      rw [this, List.take_append_drop]
    · rw [wai_at nd hi hj hr h0, pe]
      simp
theorem sub_wai {n h : Int} {b : List Key} {c : Col} (nd : (c.map numR).Nodup) : ∃ l, (waiC n h c).Perm l ∧ l.Sublist (c ++ [b]) := by
  by_cases h0 : pasC n h c = []
  · have hw : waiC n h c = c := by unfold waiC; rw [if_pos h0]
    rw [hw]
    exact sub_id b c
  · obtain ⟨i, j, hi, hj⟩ := pas_ex h0
    rw [← wai_walk nd hi]
    refine ⟨c, ?_, List.sublist_append_left _ _⟩
    conv => rhs; rw [← List.take_append_drop i c]
    rw [List.append_assoc]
    refine List.Perm.append_left _ ?_
    have := List.filter_append_perm (fun x => decide (numR x = h)) (c.drop i)
    refine List.Perm.trans ?_ this
    refine List.Perm.append_left _ ?_
    have e : (fun x => decide (numR x ≠ h)) = fun x : List Key => !decide (numR x = h) := by
      funext x
      simp
    rw [e]
/-- a ground with other columns, as far as one has come -/
noncomputable def gMap (g : Nat → Option Col) (F : Nat → Col → Col) (ks : List Nat) : Nat → Option Col := fun i => if i ∈ ks then (g i).map (F i) else g i
theorem gMap_nil (g : Nat → Option Col) (F : Nat → Col → Col) : gMap g F [] = g := by
  funext i
  simp [gMap]
theorem gMap_put {g : Nat → Option Col} {F : Nat → Col → Col} {ks : List Nat} {k : Nat} {c : Col} (e : g k = some c) : gMap g F (ks ++ [k]) = fun i => if i = k then some (F k c) else gMap g F ks i := by
  funext i
  unfold gMap
  by_cases z : i = k
  · subst z
    rw [if_pos (by simp), if_pos rfl, e]
    rfl
  · rw [if_neg z]
    simp [z]
theorem gMap_same {g : Nat → Option Col} {F : Nat → Col → Col} {ks : List Nat} {k : Nat} {c : Col} (hk : ¬ k ∈ ks) (e : g k = some c) (h : F k c = c) : gMap g F (ks ++ [k]) = gMap g F ks := by
  rw [gMap_put e]
  funext i
  by_cases z : i = k
  · rw [if_pos z, z, h]
    unfold gMap
    rw [if_neg hk, e]
  · rw [if_neg z]
theorem gMap_not {g : Nat → Option Col} {F : Nat → Col → Col} {ks : List Nat} {k : Nat} (hk : ¬ k ∈ ks) : gMap g F ks k = g k := by
  unfold gMap
  rw [if_neg hk]
theorem gMap_all {g : Nat → Option Col} {F : Nat → Col → Col} {ks : List Nat} (hk : ∀ i, (g i).isSome = true → i ∈ ks) (i : Nat) : gMap g F ks i = (g i).map (F i) := by
  unfold gMap
  by_cases k : i ∈ ks
  · rw [if_pos k]
  · rw [if_neg k]
    cases e : g i with
    | none => rfl
    | some c => exact absurd (hk i (by rw [e]; rfl)) k
theorem gMap_some {g : Nat → Option Col} {F : Nat → Col → Col} {ks : List Nat} (i : Nat) : (gMap g F ks i).isSome = (g i).isSome := by
  unfold gMap
  split
  · rw [Option.isSome_map]
  · rfl
end L2
namespace L2
open PySem PySem.Spec PyProof.Rows LM
/-- what a deed makes of the column of a cell -/
noncomputable def FW (W : Int) (m : Nat) (n h : Int) (bb : List Key) (i : Nat) (c : Col) : Col :=
  if W < 2 then (if m.testBit i = true then layC none bb c else c) else if W = 2 then (if m.testBit i = true then layC (some [n, h]) bb c else c)
  else if W = 3 then wo n c else if W = 4 then (if m.testBit i = true then filC n bb c else wo n c) else if W = 5 ∨ W = 6 then waiC n h c else c
theorem sub_FW {W : Int} {m : Nat} {n h : Int} {bb : List Key} {i : Nat} {c : Col} (nd : (c.map numR).Nodup) : ∃ l, (FW W m n h bb i c).Perm l ∧ l.Sublist (c ++ [bb]) := by
  unfold FW
  split
  · split
    · exact sub_lay _ _ _
    · exact sub_id _ _
  split
  · split
    · exact sub_lay _ _ _
    · exact sub_id _ _
  split
  · exact sub_wo _ _ _
  split
  · split
    · exact sub_fil nd
    · exact sub_wo _ _ _
  split
  · exact sub_wai nd
  · exact sub_id _ _
theorem putK_same {kvs : List (Key × V)} {k : Key} {v v0 : V} (h : valV kvs k = some v0) : (putK kvs k v).map (·.1) = kvs.map (·.1) := by
  unfold putK
  have an : (kvs.any fun kv => decide (kv.1 = k)) = true := by
    obtain ⟨kv, hkv, e⟩ := val_mem h
    exact List.any_eq_true.mpr ⟨kv, hkv, decide_eq_true e⟩
  rw [if_pos an, List.map_map]
  refine List.map_congr_left fun kv _ => ?_
  show (if kv.1 = k then (kv.1, v) else kv).1 = kv.1
  split <;> rfl
theorem IsMax.congr {l l' : List Int} {m : Int} (h : IsMax l m) (e : ∀ x, x ∈ l ↔ x ∈ l') : IsMax l' m := ⟨(e m).mp h.1, fun a ha => h.2 a ((e a).mpr ha)⟩
theorem putK_newKeys {kvs : List (Key × V)} {k : Key} {v : V} (h : valV kvs k = none) : (putK kvs k v).map (·.1) = kvs.map (·.1) ++ [k] := by
  rw [putK_new v h, List.map_append]
  rfl
end L2
namespace My
open PySem L2 LM PyProof.Rows
noncomputable def top (i : Nat) : Stmt := PySem.Challenge.pw_landroll_k37_whole_row_of_deeds.main.body.getD i (.Pass ⟨0, 0, 0, 0⟩)
noncomputable abbrev s_has : Stmt := top 1
noncomputable abbrev s_lowest : Stmt := top 2
noncomputable abbrev s_burdens_in : Stmt := top 9
noncomputable abbrev s_deepest : Stmt := top 11
noncomputable abbrev s_place_of : Stmt := top 13
noncomputable abbrev s_place_behind : Stmt := top 14
noncomputable abbrev s_lifted_from : Stmt := top 17
noncomputable abbrev s_law_cell_at : Stmt := top 25
noncomputable abbrev s_law_whole : Stmt := top 26
noncomputable abbrev s_law_stream : Stmt := top 27
noncomputable abbrev s_law_name : Stmt := top 28
noncomputable abbrev s_law_spots : Stmt := top 31
noncomputable abbrev s_law_strips : Stmt := top 32
noncomputable abbrev s_law_has : Stmt := top 34
noncomputable abbrev s_law_all : Stmt := top 35
noncomputable abbrev s_law_behind : Stmt := top 36
noncomputable abbrev s_law_filled : Stmt := top 37
noncomputable abbrev s_law_waived : Stmt := top 38
noncomputable abbrev s_law_number : Stmt := top 39
noncomputable abbrev s_lowest_of : Stmt := top 4
noncomputable abbrev s_column_at : Stmt := top 6
noncomputable abbrev s_burdens_on : Stmt := top 10
noncomputable abbrev s_laid_in : Stmt := top 15
noncomputable abbrev s_filled_in : Stmt := top 19
noncomputable abbrev s_passed_in : Stmt := top 21
noncomputable abbrev s_law_pool : Stmt := top 29
noncomputable abbrev s_law_mask : Stmt := top 30
noncomputable abbrev s_law_alike : Stmt := top 33
noncomputable abbrev s_waived_in : Stmt := top 22
noncomputable abbrev s_strips_of : Stmt := top 5
noncomputable abbrev s_kept_on : Stmt := top 7
noncomputable abbrev s_together : Stmt := top 8
noncomputable abbrev s_laid : Stmt := top 16
noncomputable abbrev s_lifted : Stmt := top 18
noncomputable abbrev s_filled : Stmt := top 20
noncomputable abbrev s_waived : Stmt := top 23
noncomputable abbrev s_law_deed : Stmt := top 40
noncomputable abbrev s_law : Stmt := top 41
section
variable {P : Program} {w : World} {K : PySem.W.Frag} {mg : Str → Option Value} {base : Heap}
noncomputable def sp_has (K : PySem.W.Frag) : Sp := fun vs H Q _ => ∃ (c : Nat) (k : Int), vs = [.int c, .int k] ∧ Q (.bl (decide (0 ≤ k) && c.testBit k.toNat)) H
theorem sc_has : FnScope ["cells", "cell"] ["cells", "cell"] (defScope s_has) := ⟨rfl, rfl, rfl, by decide +kernel, rfl, by decide +kernel, by decide +kernel⟩
set_option maxHeartbeats 4000000 in
theorem ok_has (T : Tx K mg "has" s_has ["cells", "cell"]) (B : Bn mg) : Df P w K mg base 1 "has" ["cells", "cell"] (sp_has K) := by
  refine T.df sc_has (fun vs H Q E h => ?_) (fun f cdv A outer s H vs Q E hr h => ?_)
  · obtain ⟨c, k, rfl, q⟩ := h
    rfl
  · obtain ⟨c, k, rfl, q⟩ := h
    refine ⟨_, (pss_one (ps_ret (pe_and (pe_cmpR op_ge (pv 1) pe_int (nomark _)) (pe_one (pe_cmpR op_eq (pe_op op_and (pe_op op_shr (pv 0) (pv 1)) pe_int) pe_int (nomark _)))))), ?_⟩
    refine ⟨_, rfl, _, _, rfl, rfl, _, rfl, ?_⟩
    refine ite2 (fun h0 => ?_) (fun h0 => ?_)
    · have h0' : 0 ≤ k := of_decide_eq_true h0
      refine ⟨_, rfl, _, rfl, _, _, rfl, rfl, h0', _, _, rfl, rfl, rfl, ?_⟩
      rw [has_eq c k h0']
      exact q
    · have e : decide (0 ≤ k) = false := by simpa using h0
      rw [e] at q
      exact q
noncomputable def sp_lowest (K : PySem.W.Frag) : Sp := fun vs H Q _ => ∃ (c : Nat), vs = [.int c] ∧ c < 2 ^ 64 ∧ (c = 0 → Q .non H) ∧ (c ≠ 0 → Q (.int (lowN c : Nat)) H)
theorem sc_lowest : FnScope ["cells"] ["cells"] (defScope s_lowest) := ⟨rfl, rfl, rfl, by decide +kernel, rfl, by decide +kernel, by decide +kernel⟩
set_option maxHeartbeats 4000000 in
theorem ok_lowest (T : Tx K mg "lowest" s_lowest ["cells"]) (B : Bn mg) : Df P w K mg base 1 "lowest" ["cells"] (sp_lowest K) := by
  refine T.df sc_lowest (fun vs H Q E h => ?_) (fun f cdv A outer s H vs Q E hr h => ?_)
  · obtain ⟨c, rfl, hc, q0, q1⟩ := h
    rfl
  · obtain ⟨c, rfl, hc, q0, q1⟩ := h
    refine ⟨_, (pss_cons (ps_if (pt_cmpR op_eq (pv 0) pe_int (nomark _)) (pss_one (ps_ret pe_non)) pss_nil)
      (pss_one (ps_ret (pe_op op_sub (pe_bm0 PySem.F.plainAttrs_int PySem.F.slot_int_bit_length PySem.F.type_int_bit_length mt_bits (pe_op op_and (pv 0) (pe_un un_neg (pv 0)))) pe_int)))), ?_⟩
    refine ⟨_, rfl, rfl, _, rfl, ?_⟩
    refine ite2 (fun h0 => ?_) (fun h0 => ?_)
    · exact q0 (by have := V.int.inj (of_decide_eq_true h0); omega)
    · have hne : c ≠ 0 := fun z => h0 (by rw [z]; rfl)
      have q2 := q1 hne
      rw [← low_bits hc hne] at q2
      exact ⟨_, rfl, _, rfl, _, rfl, _, _, rfl, rfl, rfl, _, rfl, rfl, _, _, rfl, rfl, q2⟩
noncomputable def sp_burdens_in (K : PySem.W.Frag) : Sp := fun vs H Q _ => ∃ (l : Addr) (xs : List V) (C : List Col) (rs : List (List Key)), vs = [.ref l] ∧ SqL K H l xs ∧ Paired (ColE K H) xs C ∧ (∀ c ∈ C, ∀ r ∈ c, r ∈ rs) ∧ rs.length ≤ 59 ∧ (∀ r ∈ rs, IsBur r) ∧ (rs.map numR).Nodup ∧ ∀ (a : Addr) (T : Col) (H' : Hp), Same H H' → IsBs C T → ColV K H' a T → Q (.ref a) H'
theorem sc_burdens_in : FnScope ["columns", "found", "column", "burden"] ["columns"] (defScope s_burdens_in) := ⟨rfl, rfl, rfl, by decide +kernel, rfl, by decide +kernel, by decide +kernel⟩
set_option maxHeartbeats 4000000 in
theorem ok_burdens_in (T : Tx K mg "burdens_in" s_burdens_in ["columns"]) (B : Bn mg) : Df P w K mg base 1 "burdens_in" ["columns"] (sp_burdens_in K) := by
  refine T.df sc_burdens_in (fun vs H Q E h => ?_) (fun f cdv A outer s H vs Q E hr h => ?_)
  · obtain ⟨l, xs, C, rs, rfl, hl, pr, hsub, hrs, hib, nd, q⟩ := h
    rfl
  · obtain ⟨l, xs, C, rs, rfl, hl, pr, hsub, hrs, hib, nd, q⟩ := h
    have hu := hr.units
    refine ⟨_, (pss_cons (ps_set (i := 1) sc_burdens_in.nd rfl (by first | exact Or.inl rfl | exact Or.inr rfl) pe_dnewK)
      (pss_cons (ps_for PassesOwn.never rfl (pi_list (pv 0)) (pg_name (i := 2) sc_burdens_in.nd rfl (by first | exact Or.inl rfl | exact Or.inr rfl)) (pss_one (ps_for PassesOwn.never rfl (pi_tup (pv 2)) (pg_name (i := 3) sc_burdens_in.nd rfl (by first | exact Or.inl rfl | exact Or.inr rfl)) (pss_one (ps_dput (hu_of hr) (pv 1) (pe_ix ix_tup (pv 3) pe_int (fun _ _ => rfl)) (pv 3) rfl)))))
      (pss_one (ps_ret (pe_callTy call_tuple_of (by rfl) B.tuple boot_tuple (pa_cons (pe_lcomp ["number"] [("found", 1)] (clOf _ ["found"]) rfl (by rfl) rfl (by decide +kernel) (by decide +kernel) (clOf_cells (by rfl)) (kin_of (by rfl)) (fun p hp => by
        cases hp with
        | head => exact ⟨rfl, rfl⟩
        | tail _ hp => exact (by cases hp)) (fun p hp => by
        cases hp with
        | head => exact rfl
        | tail _ hp => exact (by cases hp)) (wk_name (by decide)) (pi_list (pe_callB (call_srtDI rfl) (by rfl) B.sorted (by decide +kernel) (pa_cons (pv 1) pa_nil))) (fun _ _ _ _ => pg_name (i := 0) (show (["number", "found"] : List Str).Nodup by decide +kernel) rfl (Or.inl rfl) (Or.inr rfl)) (fun _ _ _ _ => pifs_nil) (fun _ _ _ _ => (pe_dget (hu_of hr) (pv 1) (pv 0) (fun _ _ => rfl)))) pa_nil)))))), ?_⟩
    have inj := nd_num nd
    have lx : xs.length = C.length := Paired.length pr
    have len : ∀ (D : List (List Key)), (D.map numR).Nodup → (∀ r ∈ D, r ∈ rs) → D.length ≤ 59 := fun D n1 h1 => by
      have := List.Nodup.length_le_of_subset n1 (l₂ := rs.map numR) fun x hx => by
        obtain ⟨r, hr, e⟩ := List.mem_map.mp hx
        exact List.mem_map.mpr ⟨r, h1 r hr, e⟩
      rw [List.length_map, List.length_map] at this
      omega
    intro d hd
    refine ⟨_, rfl, l, rfl, ⟨_, (Same.upd hd).seq hl⟩, for_list (K := K) (a := l) (xs := xs) (fun i σ H2 => ∃ (o2 o3 : Option V) (kvs : List (Key × V)) (D : List (List Key)), σ = [some (.ref l), some (.ref d), o2, o3] ∧ H2 = upd H d (.dK kvs) ∧ Paired (KB K H) kvs D ∧ (D.map numR).Nodup ∧ ∀ r, r ∈ D ↔ ∃ c ∈ C.take i, r ∈ c) ⟨none, none, [], [], rfl, rfl, .nil, List.nodup_nil, fun r => by simp⟩ (fun i σ H2 _ ⟨_, _, _, _, _, e, _⟩ => by rw [e]; exact (Same.upd hd).seq hl) ?_ ?_⟩
    · rintro i y σ H2 hi ⟨o2, o3, kvs, D, rfl, rfl, kb, nd2, hD⟩
      obtain ⟨c, hc, b, rfl, hb⟩ := paired_at pr hi
      have cin := List.mem_of_getElem? hc
      obtain ⟨lay, ys, hy, py⟩ := id hb
      have ly : ys.length = c.length := Paired.length py
      refine ⟨_, rfl, b, rfl, ⟨_, (Same.upd hd).tup hy⟩, for_tup (K := K) (a := b) (xs := ys) (fun j σ H2 => ∃ (o3 : Option V) (kvs : List (Key × V)) (D : List (List Key)), σ = [some (.ref l), some (.ref d), some (.ref b), o3] ∧ H2 = upd H d (.dK kvs) ∧ Paired (KB K H) kvs D ∧ (D.map numR).Nodup ∧ ∀ r, r ∈ D ↔ (∃ c' ∈ C.take i, r ∈ c') ∨ r ∈ c.take j) ⟨o3, kvs, D, rfl, rfl, kb, nd2, fun r => by rw [hD]; simp⟩ (fun j σ H2 _ ⟨_, _, _, _, e, _⟩ => by rw [e]; exact (Same.upd hd).tup hy) ?_ ?_⟩
      · rintro j y σ H2 hj ⟨o3', kvs', D', rfl, rfl, kb', nd', hD'⟩
        obtain ⟨r, hr, a, rfl, ha⟩ := paired_at py hj
        have rin : r ∈ c := List.mem_of_getElem? hr
        have rrs := hsub c cin r rin
        have bur : BurE K H (.ref a) r := ⟨lay r rin, a, rfl, ha⟩
        have Dsub : ∀ x ∈ D', x ∈ rs := fun x hx => by
          rcases (hD' x).mp hx with ⟨c', hc', z⟩ | z
          · exact hsub c' (List.mem_of_mem_take hc') x z
          · exact hsub c cin x (List.mem_of_mem_take z)
        have ub : ∀ x ∈ D', numR x = numR r → x = r := fun x hx e => inj x (Dsub x hx) r rrs e
        have lk : kvs'.length ≤ 59 := by rw [Paired.length kb']; exact len D' nd' Dsub
        have put := kb_put bur kb' ub
        have fin : ∀ x, x ∈ addR D' r ↔ (∃ c' ∈ C.take i, x ∈ c') ∨ x ∈ c.take (j + 1) := fun x => by
          rw [addR_mem ub, hD', List.take_add_one, hr, Option.toList_some, List.mem_append, List.mem_singleton, or_assoc]
        have nda := addR_nd (r := r) nd'
        obtain ⟨n, k, x, m, u, er⟩ := hib r rrs
        have en : numR r = n := by rw [er]; rfl
        rw [en] at put
        rw [er] at ha
        refine ⟨_, rfl, _, rfl, _, rfl, a, _, _, _, rfl, rfl, (Same.upd hd).tup ha, (atI_nat (j := 0) rfl), d, _, rfl, DPut.k (k := .inl n) upd_same (small1000 (by omega)), ?_⟩
        exact ⟨_, _, addR D' r, rfl, by rw [upd_upd], put, nda, fin⟩
      · rintro σ H2 ⟨o3', kvs', D', rfl, rfl, kb', nd', hD'⟩
        refine ⟨_, _, kvs', D', rfl, rfl, kb', nd', fun r => ?_⟩
        rw [hD', ly, List.take_length, List.take_add_one, hc, Option.toList_some]
        constructor
        · rintro (⟨c', h1, h2⟩ | h)
          · exact ⟨c', List.mem_append_left _ h1, h2⟩
          · exact ⟨c, List.mem_append_right _ (List.mem_singleton.mpr rfl), h⟩
        · rintro ⟨c', h1, h2⟩
          rcases List.mem_append.mp h1 with z | z
          · exact .inl ⟨c', z, h2⟩
          · rw [List.mem_singleton.mp z] at h2; exact .inr h2
    · rintro σ H2 ⟨o2, o3, kvs, D, rfl, rfl, kb, nd2, hD⟩
      rw [lx, List.take_length] at hD
      have Dsub : ∀ x ∈ D, x ∈ rs := fun x hx => by
        obtain ⟨c', hc', z⟩ := (hD x).mp hx
        exact hsub c' hc' x z
      have lD := len D nd2 Dsub
      have s1 := Same.upd (o := .dK kvs) hd
      have hd1 : (upd H d (.dK kvs)) d = some (.dK kvs) := upd_same
      generalize (upd H d (.dK kvs)) = H1 at s1 hd1 ⊢
      refine ⟨_, rfl, d, kvs, D.map numR, rfl, .inl hd1, kb_keys kb, by rw [List.length_map]; omega, fun l4 ns' hl4 pm so => ?_⟩
      have s4 := Same.upd (o := .lst (ns'.map V.int)) hl4
      have h4 : (upd H1 l4 (.lst (ns'.map V.int))) l4 = some (.lst (ns'.map V.int)) := upd_same
      have ln : ns'.length ≤ 59 := by rw [pm.length_eq, List.length_map]; exact lD
      have hd4 := s4 _ _ hd1
      have s14 := s1.trans s4
      generalize (upd H1 l4 (.lst (ns'.map V.int))) = H4 at s4 h4 hd4 s14 ⊢
      refine ⟨l4, rfl, ⟨_, SqL.of h4⟩, fun A1 hA1 => ?_⟩
      refine compL (K := K) (a := l4) (xs := ns'.map V.int) (fun i acc H5 => H5 = upd H4 A1 (.lst acc) ∧ ∃ T : List (List Key), Paired (BurE K H) acc T ∧ T.map numR = ns'.take i ∧ ∀ r ∈ T, r ∈ D) ⟨rfl, [], .nil, rfl, fun _ z => nomatch z⟩ (fun i acc H5 _ ⟨e, _⟩ => by rw [e]; exact (Same.upd hA1).seq (SqL.of h4)) ?_ ?_
      · rintro i y acc H5 hi ⟨rfl, T, pT, mT, sT⟩
        obtain ⟨n, hn, rfl⟩ : ∃ n, ns'[i]? = some n ∧ y = .int n := by
          rw [List.getElem?_map] at hi
          cases e : ns'[i]? with
          | none => rw [e] at hi; cases hi
          | some n => rw [e] at hi; cases hi; exact ⟨n, rfl, rfl⟩
        obtain ⟨v, r, ev, hr, er, hv⟩ := kb_val kb (pm.mem_iff.mp (List.mem_of_getElem? hn))
        have dg := DGet.k (k := .inl n) ((Same.upd (o := .lst acc) hA1) _ _ hd4)
        rw [ev] at dg
        refine ⟨_, rfl, _, rfl, d, _, rfl, dg, upd_same, small1000 ?_, by rw [upd_upd], T ++ [r], Paired.app pT (.cons hv .nil), ?_, fun x hx => ?_⟩
        · have l1 : acc.length = T.length := Paired.length pT
          have l2 := congrArg List.length mT
          rw [List.length_map, List.length_take] at l2
          omega
        · rw [List.map_append, mT, List.take_add_one, hn, Option.toList_some, List.map_cons, List.map_nil, er]
        · rcases List.mem_append.mp hx with z | z
          · exact sT x z
          · rw [List.mem_singleton.mp z]; exact hr
      · rintro acc H5 ⟨rfl, T, pT, mT, sT⟩
        rw [List.length_map, List.take_length] at mT
        have s5 := Same.upd (o := .lst acc) hA1
        refine ⟨A1, _, rfl, .inl ⟨SqL.of upd_same, fun a ha => ?_⟩⟩
        have s6 := Same.upd (o := .tup acc) ha
        have sZ := s14.trans (s5.trans s6)
        exact q a T _ sZ (bs_of nd2 hD pm so mT sT) (ColV.of (SqT.of upd_same) (Paired.imp (fun _ _ z => BurE.tk sZ.tk z) pT))
noncomputable def sp_deepest (K : PySem.W.Frag) : Sp := fun vs H Q _ => ∃ (a : Addr) (R : Strp), vs = [.ref a] ∧ StrT K H a R ∧ R.length ≤ 100 ∧ ∀ (m : Int) (H' : Hp), Same H H' → IsMax (0 :: lensR R) m → Q (.int m) H'
theorem sc_deepest : FnScope ["strips"] ["strips"] (defScope s_deepest) := ⟨rfl, rfl, rfl, by decide +kernel, rfl, by decide +kernel, by decide +kernel⟩
set_option maxHeartbeats 4000000 in
theorem ok_deepest (T : Tx K mg "deepest" s_deepest ["strips"]) (B : Bn mg) : Df P w K mg base 1 "deepest" ["strips"] (sp_deepest K) := by
  refine T.df sc_deepest (fun vs H Q E h => ?_) (fun f cdv A outer s H vs Q E hr h => ?_)
  · obtain ⟨a, R, rfl, hT, hz, q⟩ := h
    rfl
  · obtain ⟨a, R, rfl, hT, hz, q⟩ := h
    refine ⟨_, (pss_one (ps_ret (pe_max0 rfl (by rfl) B.max (pa_cons (pe_lcomp ["strip"] [] (clOf _ []) rfl (by rfl) rfl (by decide +kernel) (by decide +kernel) (clOf_cells (by rfl)) (kin_of (by rfl)) (fun p hp => by cases hp) (fun p hp => by cases hp) (wk_name (by decide)) (pi_tup (pv 0)) (fun _ _ _ _ => pg_name (i := 0) (show (["strip"] : List Str).Nodup by decide +kernel) rfl (Or.inl rfl) (Or.inr rfl)) (fun _ _ _ _ => pifs_nil) (fun _ _ _ _ => (pe_callB (call_len_seqK (K := K) rfl) (by rfl) B.len PySem.boot_len (pa_cons (pe_ix (ix_tupK (K := K) rfl) (pv 0) pe_int (fun _ _ => rfl)) pa_nil)))) pa_nil) pe_int))), ?_⟩
    obtain ⟨vs, ha, pr⟩ := hT
    have lv : vs.length = R.length := Paired.length pr
    refine ⟨_, rfl, a, rfl, ⟨_, ha⟩, fun A1 hA1 => ?_⟩
    refine compT (K := K) (a := a) (xs := vs) (fun i acc H2 => H2 = upd H A1 (.lst acc) ∧ acc = (lensR (R.take i)).map V.int) ⟨rfl, rfl⟩ (fun i acc H2 _ ⟨e, _⟩ => by rw [e]; exact (Same.upd hA1).tup ha) ?_ ?_
    · rintro i y acc H2 hi ⟨rfl, rfl⟩
      obtain ⟨p, hp, r1, b, rfl, h1, hb⟩ := paired_at pr hi
      obtain ⟨ys, hy, ly⟩ := hb.len
      have s1 := Same.upd (o := .lst ((lensR (R.take i)).map V.int)) hA1
      refine ⟨_, rfl, r1, _, _, _, rfl, rfl, s1.tup h1, (atI_nat (j := 1) rfl), b, _, rfl, .inr (s1.tup hy), upd_same, small1000 ?_, ?_, ?_⟩
      · rw [List.length_map, lensR, List.length_map, List.length_take]; omega
      · rw [upd_upd]
      · rw [List.take_add_one, hp, Option.toList_some, ly]
        simp [lensR]
    · rintro acc H2 ⟨rfl, rfl⟩
      rw [lv, List.take_length]
      have s1 := Same.upd (o := .lst ((lensR R).map V.int)) hA1
      refine ⟨A1, lensR R, rfl, SqL.of upd_same, fun e => ?_, fun ne m hm hall => ?_⟩
      · exact q 0 _ s1 (by rw [e]; exact ⟨List.mem_cons_self .., fun a h => by rw [List.mem_singleton.mp h]; omega⟩)
      · refine q m _ s1 ⟨List.mem_cons_of_mem _ hm, fun a h => ?_⟩
        rcases List.mem_cons.mp h with z | z
        · obtain ⟨p, _, e⟩ := List.mem_map.mp hm
          rw [z, ← e]
          omega
        · exact hall a z
noncomputable def sp_place_of (K : PySem.W.Frag) : Sp := fun vs H Q _ => ∃ (a : Addr) (n : Int) (c : Col), vs = [.ref a, .int n] ∧ ColV K H a c ∧ (∀ r ∈ c, IsBur r) ∧ ∀ H', Same H H' → (∀ i, FstN n c i → Q (.int (i : Nat)) H') ∧ ((∀ r ∈ c, numR r ≠ n) → Q .non H')
theorem sc_place_of : FnScope ["column", "number", "place", "burden"] ["column", "number"] (defScope s_place_of) := ⟨rfl, rfl, rfl, by decide +kernel, rfl, by decide +kernel, by decide +kernel⟩
set_option maxHeartbeats 4000000 in
theorem ok_place_of (T : Tx K mg "place_of" s_place_of ["column", "number"]) (B : Bn mg) : Df P w K mg base 1 "place_of" ["column", "number"] (sp_place_of K) := by
  refine T.df sc_place_of (fun vs H Q E h => ?_) (fun f cdv A outer s H vs Q E hr h => ?_)
  · obtain ⟨a, n, c, rfl, hc, hb, q⟩ := h
    rfl
  · obtain ⟨a, n, c, rfl, hc, hb, q⟩ := h
    refine ⟨_, (pss_cons (ps_for PassesOwn.never rfl (pi_enum (by rfl) B.enumerate (pa_cons (pv 0) pa_nil)) (pg_tup rfl (pgs_cons (pg_name (i := 2) sc_place_of.nd rfl (by first | exact Or.inl rfl | exact Or.inr rfl)) (pgs_cons (pg_name (i := 3) sc_place_of.nd rfl (by first | exact Or.inl rfl | exact Or.inr rfl)) pgs_nil))) (pss_one (ps_if (pt_cmpR op_eq (pe_ix ix_tup (pv 3) pe_int (fun _ _ => rfl)) (pv 1) (nomark _)) (pss_one (ps_ret (pv 2))) pss_nil)))
      (pss_one (ps_ret pe_non))), ?_⟩
    obtain ⟨xs, hx, pr⟩ := hc.bur
    have lx : xs.length = c.length := Paired.length pr
    refine ⟨_, rfl, a, rfl, ⟨_, hx⟩, for_enum (K := K) (a := a) (xs := xs) (fun i σ H2 => ∃ o2 o3 : Option V, σ = [some (.ref a), some (.int n), o2, o3] ∧ Same H H2 ∧ ∀ j r, j < i → c[j]? = some r → numR r ≠ n) ⟨none, none, rfl, Same.refl H, fun _ _ z => absurd z (Nat.not_lt_zero _)⟩ (fun i σ H2 _ ⟨_, _, _, e, _⟩ => e.tup hx) ?_ ?_⟩
    · rintro i y σ H2 T hi ⟨o2, o3, rfl, s2, hn⟩ hT
      obtain ⟨r, hr, bur⟩ := paired_at pr hi
      obtain ⟨lay, ab, rfl, ha⟩ := id bur
      obtain ⟨nn, k, x, m, u, er⟩ := hb r (List.mem_of_getElem? hr)
      have en : numR r = nn := by rw [er]; rfl
      rw [er] at ha
      have tk : c.take (i + 1) = c.take i ++ [r] := by rw [List.take_add_one, hr]; rfl
      have i100 : i < xs.length := (List.getElem?_eq_some_iff.mp hi).1
      have sT := Same.upd (o := .tup [.int (i : Nat), .ref ab]) hT
      refine ⟨T, _, rfl, SqT.of upd_same, rfl, _, _, rfl, _, _, rfl, rfl, ?_⟩
      refine ⟨_, rfl, ab, _, _, _, rfl, rfl, (s2.trans sT).tup ha, (atI_nat (j := 0) rfl), _, rfl, rfl, _, rfl, ?_⟩
      refine ite2 (fun h1 => ?_) (fun h1 => ?_)
      · exact ⟨_, rfl, (q _ (s2.trans sT)).1 i ⟨r, hr, by rw [en]; exact veq.mp h1, hn⟩⟩
      · refine ⟨_, _, rfl, s2.trans sT, fun j r' hj hr' => ?_⟩
        rcases Nat.lt_or_ge j i with z | z
        · exact hn j r' z hr'
        · have e : j = i := by omega
          subst e
          rw [hr] at hr'
          cases hr'
          rw [en]
          exact fun w => h1 (veq.mpr w)
    · rintro σ H2 ⟨o2, o3, rfl, s2, hn⟩
      refine (q _ s2).2 fun r hr => ?_
      obtain ⟨j, hj, rfl⟩ := List.getElem_of_mem hr
      exact hn j _ (by omega) (List.getElem?_eq_getElem hj)
noncomputable def sp_place_behind (K : PySem.W.Frag) : Sp := fun vs H Q _ => ∃ (a : Addr) (tv : V) (tl : Option (List Int)) (c : Col), vs = [.ref a, tv] ∧ ColV K H a c ∧ (∀ r ∈ c, IsBur r) ∧ TolV K H tv tl ∧ ∀ H', Same H H' → Q (.int (bhO tl c : Nat)) H'
theorem sc_place_behind : FnScope ["column", "told", "found", "place", "burden"] ["column", "told"] (defScope s_place_behind) := ⟨rfl, rfl, rfl, by decide +kernel, rfl, by decide +kernel, by decide +kernel⟩
set_option maxHeartbeats 4000000 in
theorem ok_place_behind (T : Tx K mg "place_behind" s_place_behind ["column", "told"]) (B : Bn mg) : Df P w K mg base 1 "place_behind" ["column", "told"] (sp_place_behind K) := by
  refine T.df sc_place_behind (fun vs H Q E h => ?_) (fun f cdv A outer s H vs Q E hr h => ?_)
  · obtain ⟨a, tv, tl, c, rfl, hc, hb, hT, q⟩ := h
    rfl
  · obtain ⟨a, tv, tl, c, rfl, hc, hb, hT, q⟩ := h
    refine ⟨_, (pss_cons (ps_if (pt_cmpR op_isN (pv 1) pe_non (nomark _)) (pss_one (ps_ret (pe_callB call_len_seq (by rfl) B.len PySem.boot_len (pa_cons (pv 0) pa_nil)))) pss_nil)
      (pss_cons (ps_set (i := 2) sc_place_behind.nd rfl (by first | exact Or.inl rfl | exact Or.inr rfl) pe_int)
      (pss_cons (ps_for PassesOwn.never rfl (pi_enum (by rfl) B.enumerate (pa_cons (pv 0) pa_nil)) (pg_tup rfl (pgs_cons (pg_name (i := 3) sc_place_behind.nd rfl (by first | exact Or.inl rfl | exact Or.inr rfl)) (pgs_cons (pg_name (i := 4) sc_place_behind.nd rfl (by first | exact Or.inl rfl | exact Or.inr rfl)) pgs_nil))) (pss_one (ps_if (pt_cmpR op_in_seq (pe_ix ix_tup (pv 4) pe_int (fun _ _ => rfl)) (pv 1) (by with_unfolding_all rfl)) (pss_one (ps_set (i := 2) sc_place_behind.nd rfl (by first | exact Or.inl rfl | exact Or.inr rfl) (pe_op op_add (pv 3) pe_int))) pss_nil)))
      (pss_one (ps_ret (pv 2)))))), ?_⟩
    obtain ⟨xs, hx, pr⟩ := hc.bur
    have lx : xs.length = c.length := Paired.length pr
    cases tl with
    | none =>
      cases hT
      refine ⟨_, rfl, rfl, _, rfl, iteT ?_⟩
      refine ⟨_, rfl, a, _, rfl, .inr hx, ?_⟩
      rw [lx]
      exact q H (Same.refl H)
    | some ts =>
      obtain ⟨t, rfl, ht⟩ := hT
      refine ⟨_, rfl, rfl, _, rfl, iteF ?_⟩
      refine ⟨_, rfl, a, rfl, ⟨_, hx⟩, for_enum (K := K) (a := a) (xs := xs) (fun i σ H2 => ∃ (j : Nat) (o3 o4 : Option V), σ = [some (.ref a), some (.ref t), some (.int (j : Nat)), o3, o4] ∧ Same H H2 ∧ IsBh ts (c.take i) j) ⟨0, none, none, rfl, Same.refl H, isBh0 ts⟩ (fun i σ H2 _ ⟨_, _, _, _, e, _⟩ => e.tup hx) ?_ ?_⟩
      · rintro i y σ H2 T hi ⟨j, o3, o4, rfl, s2, hj⟩ hT
        obtain ⟨r, hr, bur⟩ := paired_at pr hi
        obtain ⟨lay, ab, rfl, ha⟩ := id bur
        obtain ⟨nn, k, x, m, u, er⟩ := hb r (List.mem_of_getElem? hr)
        have en : numR r = nn := by rw [er]; rfl
        rw [er] at ha
        have tk : c.take (i + 1) = c.take i ++ [r] := by rw [List.take_add_one, hr]; rfl
        have i100 : i < xs.length := (List.getElem?_eq_some_iff.mp hi).1
        have sT := Same.upd (o := .tup [.int (i : Nat), .ref ab]) hT
        have sS := s2.trans sT
        have li : (c.take i).length = i := by rw [List.length_take]; omega
        refine ⟨T, _, rfl, SqT.of upd_same, rfl, _, _, rfl, _, _, rfl, rfl, ?_⟩
        refine ⟨_, rfl, ab, _, _, _, rfl, rfl, sS.tup ha, (atI_nat (j := 0) rfl), _, rfl, t, _, rfl, .inr (sS.tup ht), rfl, flat_ints ts, _, rfl, ?_⟩
        show if inV (.int nn) (ts.map V.int) = true then _ else _
        rw [inV_ints]
        refine ite2 (fun h1 => ?_) (fun h1 => ?_)
        · have hin : numR r ∈ ts := by rw [en]; exact of_decide_eq_true h1
          refine ⟨_, rfl, _, _, rfl, rfl, i + 1, _, _, rfl, sS, ?_⟩
          rw [tk]
          have := isBh_in (c := c.take i) hin
          rw [li] at this
          exact this
        · have nin : ¬ numR r ∈ ts := by rw [en]; exact fun z => h1 (decide_eq_true z)
          refine ⟨j, _, _, rfl, sS, ?_⟩
          rw [tk]
          exact isBh_out hj nin
      · rintro σ H2 ⟨j, o3, o4, rfl, s2, hj⟩
        rw [lx, List.take_length] at hj
        rw [hj.uniq (isBh_bh ts c)]
        exact ⟨_, rfl, q H2 s2⟩
noncomputable def sp_lifted_from (K : PySem.W.Frag) : Sp := fun vs H Q _ => ∃ (a : Addr) (n : Int) (c : Col), vs = [.ref a, .int n] ∧ ColV K H a c ∧ (∀ r ∈ c, IsBur r) ∧ c.length ≤ 100 ∧ ∀ b H', Same H H' → ColV K H' b (wo n c) → Q (.ref b) H'
theorem sc_lifted_from : FnScope ["column", "number"] ["column", "number"] (defScope s_lifted_from) := ⟨rfl, rfl, rfl, by decide +kernel, rfl, by decide +kernel, by decide +kernel⟩
set_option maxHeartbeats 4000000 in
theorem ok_lifted_from (T : Tx K mg "lifted_from" s_lifted_from ["column", "number"]) (B : Bn mg) : Df P w K mg base 1 "lifted_from" ["column", "number"] (sp_lifted_from K) := by
  refine T.df sc_lifted_from (fun vs H Q E h => ?_) (fun f cdv A outer s H vs Q E hr h => ?_)
  · obtain ⟨a, n, c, rfl, hc, hb, hl, q⟩ := h
    rfl
  · obtain ⟨a, n, c, rfl, hc, hb, hl, q⟩ := h
    refine ⟨_, (pss_one (ps_ret (pe_callTy call_tuple_of (by rfl) B.tuple boot_tuple (pa_cons (pe_lcomp ["burden"] [("number", 1)] (clOf _ ["number"]) rfl (by rfl) rfl (by decide +kernel) (by decide +kernel) (clOf_cells (by rfl)) (kin_of (by rfl)) (fun p hp => by
        cases hp with
        | head => exact ⟨rfl, rfl⟩
        | tail _ hp => exact (by cases hp)) (fun p hp => by
        cases hp with
        | head => exact rfl
        | tail _ hp => exact (by cases hp)) (wk_name (by decide)) (pi_tup (pv 0)) (fun _ _ _ _ => pg_name (i := 0) (show (["burden", "number"] : List Str).Nodup by decide +kernel) rfl (Or.inl rfl) (Or.inr rfl)) (fun _ _ _ _ => pifs_one (pt_cmpR op_ne (pe_ix (ix_tupK (K := K) rfl) (pv 0) pe_int (fun _ _ => rfl)) (pv 1) (nomark _))) (fun _ _ _ _ => (pv 0))) pa_nil)))), ?_⟩
    obtain ⟨xs, hx, pr⟩ := hc.bur
    have lx : xs.length = c.length := Paired.length pr
    refine ⟨_, rfl, a, rfl, ⟨_, hx⟩, fun A1 hA1 => ?_⟩
    refine compT (K := K) (a := a) (xs := xs) (fun i acc H2 => H2 = upd H A1 (.lst acc) ∧ Paired (BurE K H) acc (wo n (c.take i))) ⟨rfl, .nil⟩ (fun i acc H2 _ ⟨e, _⟩ => by rw [e]; exact (Same.upd hA1).tup hx) ?_ ?_
    · rintro i y acc H2 hi ⟨rfl, py⟩
      obtain ⟨r, hr, bur⟩ := paired_at pr hi
      obtain ⟨lay, ab, rfl, ha⟩ := id bur
      obtain ⟨nn, k, x, m, u, er⟩ := hb r (List.mem_of_getElem? hr)
      have en : numR r = nn := by rw [er]; rfl
      rw [er] at ha
      have tk : c.take (i + 1) = c.take i ++ [r] := by rw [List.take_add_one, hr]; rfl
      have i100 : i < xs.length := (List.getElem?_eq_some_iff.mp hi).1
      have s1 := Same.upd (o := .lst acc) hA1
      refine ⟨_, rfl, ab, _, _, _, rfl, rfl, s1.tup ha, (atI_nat (j := 0) rfl), _, rfl, rfl, _, rfl, ?_⟩
      refine ite2 (fun h1 => ?_) (fun h1 => ?_)
      · have ne : ¬ numR r = n := by rw [en]; exact vne.mp h1
        refine ⟨_, rfl, upd_same, small1000 ?_, by rw [upd_upd], ?_⟩
        · rw [Paired.length py]
          have := wo_len n (c.take i)
          rw [List.length_take] at this
          omega
        · rw [tk, wo_snoc, if_neg ne]
          exact Paired.app py (.cons bur .nil)
      · have e : numR r = n := by rw [en]; exact Decidable.byContradiction fun z => h1 (vne.mpr z)
        refine ⟨rfl, ?_⟩
        rw [tk, wo_snoc, if_pos e, List.append_nil]
        exact py
    · rintro acc H2 ⟨rfl, py⟩
      rw [lx, List.take_length] at py
      refine ⟨A1, _, rfl, .inl ⟨SqL.of upd_same, fun p hp => ?_⟩⟩
      have ss := (Same.upd (o := .lst acc) hA1).trans (Same.upd (o := .tup acc) hp)
      exact q p _ ss (ColV.of (SqT.of upd_same) (Paired.imp (fun _ _ z => BurE.tk ss.tk z) py))
noncomputable def sp_law_cell_at (K : PySem.W.Frag) : Sp := fun vs H Q _ => ∃ (a : Addr) (ns : List Int) (k : Nat), vs = [.ref a, .int k] ∧ SqL K H a (ns.map V.int) ∧ Q (.int (ns.getD k 0)) H
theorem sc_law_cell_at : FnScope ["_law_script", "_law_k"] ["_law_script", "_law_k"] (defScope s_law_cell_at) := ⟨rfl, rfl, rfl, by decide +kernel, rfl, by decide +kernel, by decide +kernel⟩
set_option maxHeartbeats 4000000 in
theorem ok_law_cell_at (T : Tx K mg "_law_cell_at" s_law_cell_at ["_law_script", "_law_k"]) (B : Bn mg) : Df P w K mg base 1 "_law_cell_at" ["_law_script", "_law_k"] (sp_law_cell_at K) := by
  refine T.df sc_law_cell_at (fun vs H Q E h => ?_) (fun f cdv A outer s H vs Q E hr h => ?_)
  · obtain ⟨a, ns, k, rfl, hS, q⟩ := h
    rfl
  · obtain ⟨a, ns, k, rfl, hS, q⟩ := h
    refine ⟨_, (pss_cons (ps_if (pt_cmpR op_lt (pv 1) (pe_callB call_len_seq (by rfl) B.len PySem.boot_len (pa_cons (pv 0) pa_nil)) (nomark _)) (pss_one (ps_ret (pe_ix ix_list (pv 0) (pv 1) (fun _ _ => rfl)))) pss_nil)
      (pss_one (ps_ret pe_int))), ?_⟩
    refine ⟨_, rfl, _, rfl, a, _, rfl, .inl hS, _, _, rfl, rfl, _, rfl, ?_⟩
    refine ite2 (fun h1 => ?_) (fun h1 => ?_)
    · have h1' : k < ns.length := by
        have := of_decide_eq_true h1
        rw [List.length_map] at this
        omega
      refine ⟨_, rfl, _, rfl, a, _, _, _, rfl, rfl, hS, atI_nat (show (ns.map V.int)[k]? = some (.int (ns.getD k 0)) by simp [h1', List.getD]), q⟩
    · have h1' : ¬ k < ns.length := fun z => h1 (by
        rw [decide_eq_true_eq, List.length_map]
        omega)
      have e : ns.getD k 0 = 0 := by simp [List.getD, Nat.le_of_not_lt h1']
      rw [e] at q
      exact q
noncomputable def sp_law_whole (K : PySem.W.Frag) : Sp := fun vs H Q _ => ∃ (x : V) (n : String), vs = [x] ∧ TyOf K H x (.type n) ∧ Q (.bl (isI x)) H
theorem sc_law_whole : FnScope ["_law_found"] ["_law_found"] (defScope s_law_whole) := ⟨rfl, rfl, rfl, by decide +kernel, rfl, by decide +kernel, by decide +kernel⟩
set_option maxHeartbeats 4000000 in
theorem ok_law_whole (T : Tx K mg "_law_whole" s_law_whole ["_law_found"]) (B : Bn mg) : Df P w K mg base 1 "_law_whole" ["_law_found"] (sp_law_whole K) := by
  refine T.df sc_law_whole (fun vs H Q E h => ?_) (fun f cdv A outer s H vs Q E hr h => ?_)
  · obtain ⟨x, n, rfl, ty, q⟩ := h
    rfl
  · obtain ⟨x, n, rfl, ty, q⟩ := h
    refine ⟨_, (pss_one (ps_ret (pe_and (pe_callB call_isi (by rfl) B.isinstance boot_isinstance (pa_cons (pv 0) (pa_cons (pe_bltn (x := "int") (v := .ty "int") (by rfl) B.int boot_int rfl) pa_nil))) (pe_one (pe_not (pe_callB call_isi (by rfl) B.isinstance boot_isinstance (pa_cons (pv 0) (pa_cons (pe_bltn (x := "bool") (v := .ty "bool") (by rfl) B.bool boot_bool rfl) pa_nil)))))))), ?_⟩
    have k1 := kit_int K ty
    have k2 := kit_bool K ty
    refine ⟨_, rfl, _, _, _, _, rfl, ty, k1, _, rfl, ?_⟩
    refine ite2 (fun h1 => ?_) (fun h1 => ?_)
    · refine ⟨_, rfl, _, _, _, _, rfl, ty, k2, _, rfl, ?_⟩
      cases x <;> simp_all [isI, isB]
    · cases x <;> simp_all [isI, isB]
noncomputable def sp_law_stream (K : PySem.W.Frag) : Sp := fun vs H Q _ => ∃ (c : Int) (n : Nat), vs = [.int c, .int (n : Nat)] ∧ n ≤ 200 ∧ ∀ (l : Addr) (xs : List Int), H l = none → xs.length = n → (∀ x ∈ xs, 0 ≤ x ∧ x < 2147483647) → Q (.ref l) (upd H l (.lst (xs.map V.int)))
theorem sc_law_stream : FnScope ["_law_cell", "_law_many", "_law_found", "_law_number_here", "_law_k"] ["_law_cell", "_law_many"] (defScope s_law_stream) := ⟨rfl, rfl, rfl, by decide +kernel, rfl, by decide +kernel, by decide +kernel⟩
set_option maxHeartbeats 4000000 in
theorem ok_law_stream (T : Tx K mg "_law_stream" s_law_stream ["_law_cell", "_law_many"]) (B : Bn mg) : Df P w K mg base 1 "_law_stream" ["_law_cell", "_law_many"] (sp_law_stream K) := by
  refine T.df sc_law_stream (fun vs H Q E h => ?_) (fun f cdv A outer s H vs Q E hr h => ?_)
  · obtain ⟨c, n, rfl, hn, q⟩ := h
    rfl
  · obtain ⟨c, n, rfl, hn, q⟩ := h
    refine ⟨_, (pss_cons (ps_set (i := 2) sc_law_stream.nd rfl (by first | exact Or.inl rfl | exact Or.inr rfl) (pe_lst pa_nil))
      (pss_cons (ps_set (i := 3) sc_law_stream.nd rfl (by first | exact Or.inl rfl | exact Or.inr rfl) (pe_op op_add (pe_op op_mod (pv 0) pe_int) pe_int))
      (pss_cons (ps_for PassesOwn.never rfl (pi_range1 (by rfl) B.range (pa_cons (pv 1) pa_nil)) (pg_name (i := 4) sc_law_stream.nd rfl (by first | exact Or.inl rfl | exact Or.inr rfl)) (pss_cons (ps_set (i := 3) sc_law_stream.nd rfl (by first | exact Or.inl rfl | exact Or.inr rfl) (pe_op op_mod (pe_op op_add (pe_op op_add (pe_op op_mulB (pv 3) (pv 3)) (pe_op op_mulB pe_int (pv 3))) (pv 4)) pe_int))
      (pss_one (ps_expr (pe_bm PySem.F.plainAttrs_list PySem.F.slot_list_append PySem.F.type_list_append mt_append (pv 2) (pa_cons (pv 3) pa_nil))))))
      (pss_one (ps_ret (pv 2)))))), ?_⟩
    have c0 := Int.emod_nonneg c (show (2147483647 : Int) ≠ 0 by decide)
    have c1 := Int.emod_lt_of_pos c (show (0 : Int) < 2147483647 by decide)
    refine ⟨len_ok rfl, fun l hl => ?_⟩
    refine ⟨_, rfl, _, _, rfl, rfl, (by show (0 : Int) < _; decide), _, _, rfl, rfl, ?_⟩
    refine ⟨_, rfl, _, rfl, by omega, by omega, for_range (lo := 0) (fun i σ H2 => ∃ (m : Int) (o4 : Option V) (xs : List Int), σ = [some (.int c), some (.int (n : Nat)), some (.ref l), some (.int m), o4] ∧ H2 = upd H l (.lst (xs.map V.int)) ∧ xs.length = i ∧ (∀ x ∈ xs, 0 ≤ x ∧ x < 2147483647) ∧ 0 ≤ m ∧ m < 4000000000) ⟨_, none, [], rfl, rfl, rfl, fun _ z => (nomatch z), by omega, by omega⟩ ?_ ?_⟩
    · rintro i σ H2 hi ⟨m, o4, xs, rfl, rfl, hx, hb, m0, m1⟩
      have bm : Bd 40 m := Bd.of (by
        have e : (2 : Nat) ^ 40 = 1099511627776 := by decide
        rw [e]
        omega)
      have b4 : Bd 40 48271 := Bd.of (by decide)
      refine ⟨_, rfl, _, rfl, _, _, rfl, rfl, ⟨bm.mono (by decide), bm.mono (by decide)⟩, _, rfl, _, _, rfl, rfl, ⟨b4.mono (by decide), bm.mono (by decide)⟩, _, _, rfl, rfl, _, rfl, _, _, rfl, rfl, _, _, rfl, rfl, (by show (0 : Int) < _; decide), ?_⟩
      have d0 := Int.emod_nonneg (m * m + 48271 * m + (0 + (i : Int))) (show (2147483647 : Int) ≠ 0 by decide)
      have d1 := Int.emod_lt_of_pos (m * m + 48271 * m + (0 + (i : Int))) (show (0 : Int) < 2147483647 by decide)
      refine ⟨_, rfl, .inl ⟨rfl, _, SqL.of upd_same⟩, _, rfl, l, _, _, rfl, rfl, upd_same, ?_, ?_⟩
      · rw [List.length_map]
        exact small1000 (by omega)
      · refine ⟨_, _, xs ++ [(m * m + 48271 * m + (0 + (i : Int))) % 2147483647], rfl, ?_, by rw [List.length_append, hx]; rfl, fun x h => ?_, d0, by omega⟩
        · rw [upd_upd, List.map_append]; rfl
        · rcases List.mem_append.mp h with z | z
          · exact hb x z
          · rw [List.mem_singleton.mp z]; exact ⟨d0, d1⟩
    · rintro σ H2 ⟨m, o4, xs, rfl, rfl, hx, hb, m0, m1⟩
      exact ⟨_, rfl, q l xs hl (by omega) hb⟩
noncomputable def sp_law_name (K : PySem.W.Frag) : Sp := fun vs H Q _ => ∃ z : Int, vs = [.int z] ∧ 0 ≤ z ∧ ∀ x : Str, IsNm x → Q (.str x) H
theorem sc_law_name : FnScope ["_law_number_here", "_law_letters", "_law_name_here", "_law_k"] ["_law_number_here"] (defScope s_law_name) := ⟨rfl, rfl, rfl, by decide +kernel, rfl, by decide +kernel, by decide +kernel⟩
set_option maxHeartbeats 4000000 in
theorem ok_law_name (T : Tx K mg "_law_name" s_law_name ["_law_number_here"]) (B : Bn mg) : Df P w K mg base 1 "_law_name" ["_law_number_here"] (sp_law_name K) := by
  refine T.df sc_law_name (fun vs H Q E h => ?_) (fun f cdv A outer s H vs Q E hr h => ?_)
  · obtain ⟨z, rfl, hz, q⟩ := h
    rfl
  · obtain ⟨z, rfl, hz, q⟩ := h
    refine ⟨_, (pss_cons (ps_set (i := 1) sc_law_name.nd rfl (by first | exact Or.inl rfl | exact Or.inr rfl) pe_str)
      (pss_cons (ps_set (i := 2) sc_law_name.nd rfl (by first | exact Or.inl rfl | exact Or.inr rfl) pe_str)
      (pss_cons (ps_for PassesOwn.never rfl (pi_range1 (by rfl) B.range (pa_cons (pe_op op_add pe_int (pe_op op_mod (pv 0) pe_int)) pa_nil)) (pg_name (i := 3) sc_law_name.nd rfl (by first | exact Or.inl rfl | exact Or.inr rfl)) (pss_one (ps_set (i := 2) sc_law_name.nd rfl (by first | exact Or.inl rfl | exact Or.inr rfl) (pe_op op_add_str (pv 2) (pe_ix ix_str (pv 1) (pe_op op_mod (pe_op op_fdiv (pv 0) (pe_op op_add (pv 3) pe_int)) pe_int) (fun _ _ => rfl))))))
      (pss_one (ps_ret (pv 2)))))), ?_⟩
    have a0 := Int.emod_nonneg z (show (8 : Int) ≠ 0 by decide)
    have a1 := Int.emod_lt_of_pos z (show (0 : Int) < 8 by decide)
    have e0 : (Str.ofString "").length = 0 := by decide +kernel
    refine ⟨_, rfl, _, _, rfl, rfl, (by show (0 : Int) < _; decide), _, _, rfl, rfl, ?_⟩
    refine ⟨_, rfl, by omega, by omega, for_range (lo := 0) (fun i σ H2 => ∃ (o3 : Option V) (x : Str), σ = [some (.int z), some (.str (Str.ofString "abcdefghijklmnopqrstuvwxyz")), some (.str x), o3] ∧ H2 = H ∧ AllL x ∧ x.length = i) ⟨none, Str.ofString "", rfl, rfl, allL_nil, e0⟩ ?_ ?_⟩
    · rintro i σ H2 hi ⟨o3, x, rfl, rfl, ha, hl⟩
      obtain ⟨c0, hc0, l0⟩ := letter_at (i := z / (0 + (i : Int) + 9) % 26) (Int.emod_nonneg _ (by decide)) (Int.emod_lt_of_pos _ (by decide))
      refine ⟨_, rfl, _, rfl, _, rfl, _, rfl, _, _, rfl, rfl, _, _, rfl, rfl, ⟨by show (0 : Int) < _; omega, by show _ < (1073741824 : Int); omega⟩, _, _, rfl, rfl, (by show (0 : Int) < _; decide), _, _, c0, rfl, rfl, by decide, hc0, _, _, rfl, rfl, ?_, ?_⟩
      · rw [hl]
        exact Nat.le_of_lt (small1000 (by show i + 1 ≤ 1000; omega))
      · exact ⟨_, x ++ ⟨#[c0]⟩, rfl, rfl, ha.app (AllL.one l0), by rw [app_len, hl]; rfl⟩
    · rintro σ H2 ⟨o3, x, rfl, rfl, ha, hl⟩
      exact ⟨_, rfl, q x ⟨ha, by omega, by omega⟩⟩
noncomputable def sp_law_spots (K : PySem.W.Frag) : Sp := fun vs H Q _ => ∃ (c : Int) (n : Nat), vs = [.int c, .int (n : Nat)] ∧ n ≤ 64 ∧ ∀ (l : Addr) (ks : List Nat), H l = none → ks.length = n → (∀ k ∈ ks, k < 64) → ks.Nodup → Q (.ref l) (upd H l (.lst (NV ks)))
theorem sc_law_spots : FnScope ["_law_cell", "_law_many", "_law_start", "_law_step"] ["_law_cell", "_law_many"] (defScope s_law_spots) := ⟨rfl, rfl, rfl, by decide +kernel, rfl, by decide +kernel, by decide +kernel⟩
set_option maxHeartbeats 4000000 in
theorem ok_law_spots (T : Tx K mg "_law_spots" s_law_spots ["_law_cell", "_law_many"]) (B : Bn mg) : Df P w K mg base 1 "_law_spots" ["_law_cell", "_law_many"] (sp_law_spots K) := by
  refine T.df sc_law_spots (fun vs H Q E h => ?_) (fun f cdv A outer s H vs Q E hr h => ?_)
  · obtain ⟨c, n, rfl, hn, q⟩ := h
    rfl
  · obtain ⟨c, n, rfl, hn, q⟩ := h
    refine ⟨_, (pss_cons (ps_set (i := 2) sc_law_spots.nd rfl (by first | exact Or.inl rfl | exact Or.inr rfl) (pe_op op_mod (pv 0) pe_int))
      (pss_cons (ps_set (i := 3) sc_law_spots.nd rfl (by first | exact Or.inl rfl | exact Or.inr rfl) (pe_op op_add (pe_op op_mul pe_int (pe_op op_mod (pe_op op_fdiv (pv 0) pe_int) pe_int)) pe_int))
      (pss_one (ps_ret (pe_lcomp ["_law_k"] [("_law_start", 2), ("_law_step", 3)] (clOf _ ["_law_step", "_law_start"]) rfl (by rfl) rfl (by decide +kernel) (by decide +kernel) (clOf_cells (by rfl)) (kin_of (by rfl)) (fun p hp => by
        cases hp with
        | head => exact ⟨rfl, rfl⟩
        | tail _ hp => exact (by
        cases hp with
        | head => exact ⟨rfl, rfl⟩
        | tail _ hp => exact (by cases hp))) (fun p hp => by
        cases hp with
        | head => exact rfl
        | tail _ hp => exact (by
        cases hp with
        | head => exact rfl
        | tail _ hp => exact (by cases hp))) (wk_name (by decide)) (pi_range1 (by rfl) B.range (pa_cons (pv 1) pa_nil)) (fun _ _ _ _ => pg_name (i := 0) (show (["_law_k", "_law_start", "_law_step"] : List Str).Nodup by decide +kernel) rfl (Or.inl rfl) (Or.inr rfl)) (fun _ _ _ _ => pifs_nil) (fun _ _ _ _ => (pe_op op_mod (pe_op op_add (pv 1) (pe_op op_mul (pv 0) (pv 2))) pe_int))))))), ?_⟩
    have c0 := Int.emod_nonneg c (show (64 : Int) ≠ 0 by decide)
    have e0 := Int.emod_nonneg (c / 64) (show (32 : Int) ≠ 0 by decide)
    have e1 := Int.emod_lt_of_pos (c / 64) (show (0 : Int) < 32 by decide)
    have c1 := Int.emod_lt_of_pos c (show (0 : Int) < 64 by decide)
    refine ⟨_, rfl, _, _, rfl, rfl, (by show (0 : Int) < _; decide), ?_⟩
    refine ⟨_, rfl, _, _, rfl, rfl, ⟨by decide, by decide⟩, _, _, rfl, rfl, (by show (0 : Int) < _; decide), _, _, rfl, rfl, .inl ⟨by decide, by decide⟩, _, _, rfl, rfl, ?_⟩
    refine ⟨_, rfl, n, rfl, by omega, by omega, fun D hD => ?_⟩
    rw [show ((n : Int)).toNat = n by omega]
    refine compR (n := n) (lo := 0) (fun i acc H2 => H2 = upd H D (.lst acc) ∧ acc = NV ((List.range i).map (spotN (c % 64) (2 * (c / 64 % 32) + 1)))) ⟨rfl, rfl⟩ ?_ ?_
    · rintro i acc H2 hi ⟨rfl, rfl⟩
      have d0 := Int.emod_nonneg (c % 64 + (0 + (i : Int)) * (2 * (c / 64 % 32) + 1)) (show (64 : Int) ≠ 0 by decide)
      refine ⟨_, rfl, _, rfl, _, rfl, _, _, rfl, rfl, .inl ⟨by omega, by omega⟩, _, _, rfl, rfl, _, _, rfl, rfl, (by show (0 : Int) < _; decide), upd_same, ?_, ?_, ?_⟩
      · exact small1000 (by rw [List.length_map, List.length_map, List.length_range]; omega)
      · rw [upd_upd]
      · rw [List.range_succ, List.map_append, NV_app]
        show NV _ ++ [V.int _] = NV _ ++ [V.int _]
        unfold spotN
        rw [Int.toNat_of_nonneg d0]
    · rintro acc H2 ⟨rfl, rfl⟩
      exact q D _ hD (by rw [List.length_map, List.length_range]) (fun k hk => by obtain ⟨j, _, rfl⟩ := List.mem_map.mp hk; exact spot_lt _ _ _) (spots_nd e0 e1 hn)
noncomputable def sp_law_strips (K : PySem.W.Frag) : Sp := fun vs H Q _ => ∃ (d : Addr) (kvs : List (Key × V)) (g : Nat → Option Col) (C : List Col), vs = [.ref d] ∧ H d = some (.dK kvs) ∧ GD K H kvs g ∧ (∀ i c, g i = some c → c ∈ C) ∧ C.length ≤ 50 ∧ ∀ (a : Addr) (R : Strp) (H' : Hp), Same H H' → StrT K H' a R → IsStr g R → Q (.ref a) H'
theorem sc_law_strips : FnScope ["_law_ground", "_law_columns", "_law_cells", "_law_cell", "_law_at"] ["_law_ground"] (defScope s_law_strips) := ⟨rfl, rfl, rfl, by decide +kernel, rfl, by decide +kernel, by decide +kernel⟩
set_option maxHeartbeats 4000000 in
theorem ok_law_strips (T : Tx K mg "_law_strips" s_law_strips ["_law_ground"]) (B : Bn mg) : Df P w K mg base 1 "_law_strips" ["_law_ground"] (sp_law_strips K) := by
  refine T.df sc_law_strips (fun vs H Q E h => ?_) (fun f cdv A outer s H vs Q E hr h => ?_)
  · obtain ⟨d, kvs, g, C, rfl, hd, hg, hC, hCl, q⟩ := h
    rfl
  · obtain ⟨d, kvs, g, C, rfl, hd, hg, hC, hCl, q⟩ := h
    have hu := hr.units
    refine ⟨_, (pss_cons (ps_set (i := 1) sc_law_strips.nd rfl (by first | exact Or.inl rfl | exact Or.inr rfl) (pe_lst pa_nil))
      (pss_cons (ps_set (i := 2) sc_law_strips.nd rfl (by first | exact Or.inl rfl | exact Or.inr rfl) (pe_lst pa_nil))
      (pss_cons (ps_for PassesOwn.never rfl (pi_range1 (by rfl) B.range (pa_cons pe_int pa_nil)) (pg_name (i := 3) sc_law_strips.nd rfl (by first | exact Or.inl rfl | exact Or.inr rfl)) (pss_one (ps_if (pt_cmp (pc_din (hu_of hr) (pv 3) (pv 0))) (pss_consE (ps_if (pt_cmpR (op_notInD hu) (pe_dget (hu_of hr) (pv 0) (pv 3) (fun _ _ => rfl)) (pv 1) (by with_unfolding_all rfl)) (pss_cons (ps_expr (pe_bm PySem.F.plainAttrs_list PySem.F.slot_list_append PySem.F.type_list_append mt_append (pv 1) (pa_cons (pe_dget (hu_of hr) (pv 0) (pv 3) (fun _ _ => rfl)) pa_nil)))
      (pss_one (ps_expr (pe_bm PySem.F.plainAttrs_list PySem.F.slot_list_append PySem.F.type_list_append mt_append (pv 2) (pa_cons pe_int pa_nil))))) pss_nil)
      (pss_cons (ps_set (i := 4) sc_law_strips.nd rfl (by first | exact Or.inl rfl | exact Or.inr rfl) (pe_bm PySem.F.plainAttrs_list PySem.F.slot_list_index PySem.F.type_list_index (mt_index hu) (pv 1) (pa_cons (pe_dget (hu_of hr) (pv 0) (pv 3) (fun _ _ => rfl)) pa_nil)))
      (pss_one (ps_asg (pe_op op_add (pe_ix ix_list (pv 2) (pv 4) (fun _ _ => rfl)) (pe_op op_shl pe_int (pv 3))) (pg_sub (pv 2) (pv 4) set_list))))) pss_nil)))
      (pss_one (ps_ret (pe_callTy call_tuple_of (by rfl) B.tuple boot_tuple (pa_cons (pe_lcomp ["_law_k"] [("_law_cells", 2), ("_law_columns", 1)] (clOf _ ["_law_columns", "_law_cells"]) rfl (by rfl) rfl (by decide +kernel) (by decide +kernel) (clOf_cells (by rfl)) (kin_of (by rfl)) (fun p hp => by
        cases hp with
        | head => exact ⟨rfl, rfl⟩
        | tail _ hp => exact (by
        cases hp with
        | head => exact ⟨rfl, rfl⟩
        | tail _ hp => exact (by cases hp))) (fun p hp => by
        cases hp with
        | head => exact rfl
        | tail _ hp => exact (by
        cases hp with
        | head => exact rfl
        | tail _ hp => exact (by cases hp))) (wk_name (by decide)) (pi_range1 (by rfl) B.range (pa_cons (pe_callB call_len_seq (by rfl) B.len PySem.boot_len (pa_cons (pv 1) pa_nil)) pa_nil)) (fun _ _ _ _ => pg_name (i := 0) (show (["_law_k", "_law_cells", "_law_columns"] : List Str).Nodup by decide +kernel) rfl (Or.inl rfl) (Or.inr rfl)) (fun _ _ _ _ => pifs_nil) (fun _ _ _ _ => (pe_tup (pa_cons (pe_ix (ix_listK (K := K) rfl) (pv 1) (pv 0) (fun _ _ => rfl)) (pa_cons (pe_ix (ix_listK (K := K) rfl) (pv 2) (pv 0) (fun _ _ => rfl)) pa_nil))))) pa_nil))))))), ?_⟩
    refine ⟨len_ok rfl, fun l1 hl1 => ?_⟩
    refine ⟨len_ok rfl, fun l2 hl2 => ?_⟩
    have n12 : l2 ≠ l1 := fun z => by rw [z, upd_same] at hl2; cases hl2
    have s0 : Same H (upd (upd H l1 (.lst [])) l2 (.lst [])) := (Same.upd hl1).trans (Same.upd hl2)
    have k1 : (upd (upd H l1 (.lst [])) l2 (.lst [])) l1 = some (.lst []) := by rw [upd_ne n12.symm]; exact upd_same
    have k2 : (upd (upd H l1 (.lst [])) l2 (.lst [])) l2 = some (.lst []) := upd_same
    have fl2 : H l2 = none := by rw [upd_ne n12] at hl2; exact hl2
    generalize (upd (upd H l1 (.lst [])) l2 (.lst [])) = H0 at s0 k1 k2 ⊢
    refine ⟨64, rfl, by decide, by decide, for_range (n := 64) (lo := 0) (fun i σ H2 => ∃ (o3 o4 : Option V) (vs : List V), σ = [some (.ref d), some (.ref l1), some (.ref l2), o3, o4] ∧ Same H H2 ∧ H2 l1 = some (.lst vs) ∧ H2 l2 = some (.lst (NV ((dcols g i).map (msk g i)))) ∧ Paired (ColE K H2) vs (dcols g i)) ⟨none, none, [], rfl, s0, k1, k2, .nil⟩ ?_ ?_⟩
    · rintro i σ H2 hi ⟨o3, o4, vs, rfl, s2, g1, g2, pr⟩
      rw [show (0 : Int) + (i : Int) = ((i : Nat) : Int) by omega]
      have hd2 := s2 _ _ hd
      have lv : vs.length = (dcols g i).length := Paired.length pr
      have dl := dcols_sub hC i
      rcases (hg.tk s2.tk) i with ⟨e1, e2⟩ | ⟨b, c, e1, e2, hb⟩
      · have dg := DGet.k (k := .inl (i : Int)) hd2
        rw [e1] at dg
        refine ⟨_, rfl, _, rfl, d, _, rfl, dg, _, rfl, iteF ?_⟩
        refine ⟨_, _, vs, rfl, s2, g1, ?_, ?_⟩
        · rw [dcols_none e2, g2]
          congr 3
          exact List.map_congr_left fun c _ => by
            show _ = (if g i = some c then _ else _)
            rw [e2]; rfl
        · rw [dcols_none e2]; exact pr
      · have dg := DGet.k (k := .inl (i : Int)) hd2
        rw [e1] at dg
        refine ⟨_, rfl, _, rfl, d, _, rfl, dg, _, rfl, iteT ?_⟩
        have nl1 : ∀ (a : Addr) (o : HO), H a = some o → a ≠ l1 := fun a o e z => by rw [z, hl1] at e; cases e
        have nl2 : ∀ (a : Addr) (o : HO), H a = some o → a ≠ l2 := fun a o e z => by rw [z, fl2] at e; cases e
        have layc : (colD c).canLay0 = true := lay_col c hb.1
        have depc : (colD c).depth ≤ 50 := Nat.le_trans (dep_col c) (by decide)
        refine ⟨fun σ' H' => ∃ (vs' : List V), σ' = [some (.ref d), some (.ref l1), some (.ref l2), some (.int (i : Nat)), o4] ∧ Same H H' ∧ H' l1 = some (.lst vs') ∧ H' l2 = some (.lst (NV ((dcols g (i + 1)).map (msk g i)))) ∧ Paired (ColE K H') vs' (dcols g (i + 1)) ∧ ColV K H' b c, ?_, ?_⟩
        · refine ⟨_, rfl, _, rfl, d, _, rfl, dg, _, rfl, colD c, (dcols g i).map colD, hb.isD, .inl (.lst (SqL.of g1) (cols_isDs pr)), layc, cols_lay pr, depc, _, rfl, ?_⟩
          rw [cols_any]
          refine ite2 (fun h5 => ?_) (fun h5 => ?_)
          · have nin : ¬ c ∈ dcols g i := fun z => by
              rw [decide_eq_true z] at h5
              exact absurd h5 (by decide)
            have tk := TK.lst (o := .lst (vs ++ [.ref b])) g1
            have g2' : (upd H2 l1 (.lst (vs ++ [.ref b]))) l2 = some (.lst (NV ((dcols g i).map (msk g i)))) := by rw [upd_ne n12]; exact g2
            have tk2 := TK.lst (o := .lst (NV ((dcols g i).map (msk g i)) ++ [.int 0])) g2'
            refine ⟨_, rfl, .inl ⟨rfl, _, SqL.of g1⟩, _, rfl, _, rfl, d, _, rfl, dg, l1, _, _, rfl, rfl, g1, small1000 (by omega), ?_⟩
            refine ⟨_, rfl, .inl ⟨rfl, _, SqL.of g2'⟩, l2, _, _, rfl, rfl, g2', small1000 (by rw [List.length_map, List.length_map]; omega), ?_⟩
            refine ⟨vs ++ [.ref b], rfl, ?_, ?_, ?_, ?_, (hb.tk tk).tk tk2⟩
            · intro a o e
              rw [upd_ne (nl2 _ _ e), upd_ne (nl1 _ _ e)]
              exact s2 _ _ e
            · rw [upd_ne n12.symm]; exact upd_same
            · rw [upd_same, dcols_new e2 nin, List.map_append, NV_app]
              show _ = some (HO.lst (_ ++ [V.int ((msk g i c : Nat) : Int)]))
              rw [msk_out nin]
              rfl
            · rw [dcols_new e2 nin]
              exact Paired.app (Paired.imp (fun _ _ z => (z.tk tk).tk tk2) pr) (.cons ⟨b, rfl, (hb.tk tk).tk tk2⟩ .nil)
          · have isin : c ∈ dcols g i := Decidable.byContradiction fun z => h5 (by rw [decide_eq_false z]; rfl)
            refine ⟨vs, rfl, s2, g1, ?_, ?_, hb⟩
            · rw [dcols_in e2 isin]; exact g2
            · rw [dcols_in e2 isin]; exact pr
        · rintro σ' H' ⟨vs', rfl, s5, f1, f2, pr5, hb5⟩
          have dl5 := dcols_sub hC (i + 1)
          have lv5 : vs'.length = (dcols g (i + 1)).length := Paired.length pr5
          have dg5 := DGet.k (k := .inl (i : Int)) (s5 _ _ hd)
          rw [e1] at dg5
          have cin := (dcols_mem g c (i + 1)).mpr ⟨i, by omega, e2⟩
          have nd := dcols_nd g (i + 1)
          generalize dcols g (i + 1) = D at f2 pr5 dl5 lv5 cin nd ⊢
          obtain ⟨j, hj, ej⟩ := List.getElem_of_mem cin
          have hj' : D[j]? = some c := by rw [List.getElem?_eq_getElem hj, ej]
          have em : (NV (D.map (msk g i)))[j]? = some (.int (msk g i c : Nat)) := by
            rw [List.getElem?_map, List.getElem?_map, hj']; rfl
          refine ⟨_, rfl, .inl ⟨rfl, _, SqL.of f1⟩, _, rfl, _, rfl, d, _, rfl, dg5, l1, _, _, colD c, D.map colD, j, rfl, rfl, f1, cols_isDs pr5, hb5.isD, layc, cols_lay pr5, depc, ⟨colD c, by rw [List.getElem?_map, hj']; rfl, by rw [col_eqv]; exact decide_eq_true rfl⟩, fun m e hm he => ?_, ?_⟩
          · rw [List.getElem?_map] at he
            have lm : m < D.length := by omega
            rw [List.getElem?_eq_getElem lm] at he
            cases he
            rw [col_eqv]
            refine decide_eq_false fun z => ?_
            have := nd_inj nd lm hj (z.trans ej.symm)
            omega
          · refine ⟨_, rfl, _, rfl, l2, _, _, _, rfl, rfl, SqL.of f2, atI_nat em, _, rfl, _, _, rfl, rfl, ⟨by omega, by omega, by decide⟩, _, _, rfl, rfl, ?_⟩
            refine ⟨_, rfl, _, rfl, l2, _, _, j, rfl, rfl, f2, ixN_nat (by rw [List.length_map, List.length_map]; exact hj), ?_⟩
            have tk3 := TK.lst (o := .lst ((NV (D.map (msk g i))).set j (.int ((msk g i c : Nat) + 1 * 2 ^ ((i : Int)).toNat)))) f2
            refine ⟨_, _, vs', rfl, ?_, ?_, ?_, Paired.imp (fun _ _ z => z.tk tk3) pr5⟩
            · intro a o e
              rw [upd_ne (nl2 _ _ e)]
              exact s5 _ _ e
            · rw [upd_ne n12.symm]; exact f1
            · rw [upd_same, set_msk nd hj' e2]
    · rintro σ H2 ⟨o3, o4, vs, rfl, s2, g1, g2, pr⟩
      have lv : vs.length = (dcols g 64).length := Paired.length pr
      have dl := dcols_sub hC 64
      refine ⟨_, rfl, l1, _, rfl, .inl (SqL.of g1), _, rfl, by omega, by omega, fun D hD => ?_⟩
      refine compR (n := vs.length) (lo := 0) (fun i acc H3 => Same H2 H3 ∧ H3 D = some (.lst acc) ∧ Paired (PairE K H3) acc (((dcols g 64).take i).map fun c => (msk g 64 c, c))) ⟨Same.upd hD, upd_same, .nil⟩ ?_ ?_
      · rintro i acc H3 hi ⟨s3, h3, pr3⟩
        have hi' : i < (dcols g 64).length := by omega
        obtain ⟨c, hc, b, ev, hb⟩ := paired_at pr (List.getElem?_eq_getElem hi)
        have em : (NV ((dcols g 64).map (msk g 64)))[i]? = some (.int (msk g 64 c : Nat)) := by
          rw [List.getElem?_map, List.getElem?_map, hc]; rfl
        rw [show (0 : Int) + (i : Int) = ((i : Nat) : Int) by omega]
        refine ⟨_, rfl, _, rfl, l2, _, _, _, rfl, rfl, SqL.of (s3 _ _ g2), atI_nat em, _, rfl, _, rfl, l1, _, _, _, rfl, rfl, SqL.of (s3 _ _ g1), atI_nat (List.getElem?_eq_getElem hi), len_ok rfl, fun r4 hr4 => ?_⟩
        rw [ev]
        have s4 := Same.upd (o := .tup [.int (msk g 64 c : Nat), .ref b]) hr4
        have lacc : acc.length < sizeLine := by
          rw [Paired.length pr3, List.length_map, List.length_take]
          exact small1000 (by omega)
        refine ⟨s4 _ _ h3, lacc, ?_, upd_same, ?_⟩
        · intro b5 o5 e5
          rw [upd_ne (fun z => by rw [z, hD] at e5; cases e5)]
          exact s4 _ _ (s3 _ _ e5)
        · rw [List.take_add_one, hc, Option.toList_some, List.map_append]
          have tk2 := TK.lst (o := .lst (acc ++ [.ref r4])) (s4 _ _ h3)
          exact Paired.app (Paired.imp (fun _ _ z => (z.tk s4.tk).tk tk2) pr3) (.cons (PairE.tk tk2 ⟨r4, b, rfl, SqT.of upd_same, hb.tk (s3.trans s4).tk⟩) .nil)
      · rintro acc H3 ⟨s3, h3, pr3⟩
        rw [lv, List.take_length] at pr3
        refine ⟨D, _, rfl, .inl ⟨SqL.of h3, fun l6 hl6 => ?_⟩⟩
        have s6 := Same.upd (o := .tup acc) hl6
        exact q l6 _ _ (s2.trans (s3.trans s6)) ⟨acc, SqT.of upd_same, Paired.imp (fun _ _ z => z.tk s6.tk) pr3⟩ (strips_are g)
noncomputable def sp_law_has (K : PySem.W.Frag) : Sp := fun vs H Q _ => ∃ (c k : Nat), vs = [.int c, .int k] ∧ k ≤ 64 ∧ Q (.bl (c.testBit k)) H
theorem sc_law_has : FnScope ["_law_cells", "_law_cell"] ["_law_cells", "_law_cell"] (defScope s_law_has) := ⟨rfl, rfl, rfl, by decide +kernel, rfl, by decide +kernel, by decide +kernel⟩
set_option maxHeartbeats 4000000 in
theorem ok_law_has (T : Tx K mg "_law_has" s_law_has ["_law_cells", "_law_cell"]) (B : Bn mg) : Df P w K mg base 1 "_law_has" ["_law_cells", "_law_cell"] (sp_law_has K) := by
  refine T.df sc_law_has (fun vs H Q E h => ?_) (fun f cdv A outer s H vs Q E hr h => ?_)
  · obtain ⟨c, k, rfl, hk, q⟩ := h
    rfl
  · obtain ⟨c, k, rfl, hk, q⟩ := h
    refine ⟨_, (pss_one (ps_ret (pe_cmpR op_eq (pe_op op_mod (pe_op op_fdivB (pv 0) (pe_op op_shl pe_int (pv 1))) pe_int) pe_int (nomark _)))), ?_⟩
    refine ⟨_, rfl, _, rfl, _, _, rfl, rfl, ⟨by omega, by omega, by decide⟩, _, _, rfl, rfl, ⟨pow_pos1 _, pow_log k hk⟩, _, _, rfl, rfl, (by show (0 : Int) < _; decide), rfl, ?_⟩
    rw [lhas_eq c k]
    exact q
noncomputable def sp_law_all (K : PySem.W.Frag) : Sp := fun vs H Q _ => ∃ (l : Addr) (xs : List V) (C : List Col) (rs : List (List Key)), vs = [.ref l] ∧ SqL K H l xs ∧ Paired (ColE K H) xs C ∧ (∀ c ∈ C, ∀ r ∈ c, r ∈ rs) ∧ rs.length ≤ 59 ∧ (∀ r ∈ rs, IsBur r) ∧ (rs.map numR).Nodup ∧ ∀ (a : Addr) (T : Col) (H' : Hp), Same H H' → IsBs C T → ColV K H' a T → Q (.ref a) H'
theorem sc_law_all : FnScope ["_law_columns", "_law_found", "_law_column", "_law_burden"] ["_law_columns"] (defScope s_law_all) := ⟨rfl, rfl, rfl, by decide +kernel, rfl, by decide +kernel, by decide +kernel⟩
set_option maxHeartbeats 4000000 in
theorem ok_law_all (T : Tx K mg "_law_all" s_law_all ["_law_columns"]) (B : Bn mg) : Df P w K mg base 1 "_law_all" ["_law_columns"] (sp_law_all K) := by
  refine T.df sc_law_all (fun vs H Q E h => ?_) (fun f cdv A outer s H vs Q E hr h => ?_)
  · obtain ⟨l, xs, C, rs, rfl, hl, pr, hsub, hrs, hib, nd, q⟩ := h
    rfl
  · obtain ⟨l, xs, C, rs, rfl, hl, pr, hsub, hrs, hib, nd, q⟩ := h
    have hu := hr.units
    refine ⟨_, (pss_cons (ps_set (i := 1) sc_law_all.nd rfl (by first | exact Or.inl rfl | exact Or.inr rfl) pe_dnewK)
      (pss_cons (ps_for PassesOwn.never rfl (pi_list (pv 0)) (pg_name (i := 2) sc_law_all.nd rfl (by first | exact Or.inl rfl | exact Or.inr rfl)) (pss_one (ps_for PassesOwn.never rfl (pi_tup (pv 2)) (pg_name (i := 3) sc_law_all.nd rfl (by first | exact Or.inl rfl | exact Or.inr rfl)) (pss_one (ps_dput (hu_of hr) (pv 1) (pe_ix ix_tup (pv 3) pe_int (fun _ _ => rfl)) (pv 3) rfl)))))
      (pss_one (ps_ret (pe_callTy call_tuple_of (by rfl) B.tuple boot_tuple (pa_cons (pe_lcomp ["_law_number_here"] [("_law_found", 1)] (clOf _ ["_law_found"]) rfl (by rfl) rfl (by decide +kernel) (by decide +kernel) (clOf_cells (by rfl)) (kin_of (by rfl)) (fun p hp => by
        cases hp with
        | head => exact ⟨rfl, rfl⟩
        | tail _ hp => exact (by cases hp)) (fun p hp => by
        cases hp with
        | head => exact rfl
        | tail _ hp => exact (by cases hp)) (wk_name (by decide)) (pi_list (pe_callB (call_srtDI rfl) (by rfl) B.sorted (by decide +kernel) (pa_cons (pv 1) pa_nil))) (fun _ _ _ _ => pg_name (i := 0) (show (["_law_number_here", "_law_found"] : List Str).Nodup by decide +kernel) rfl (Or.inl rfl) (Or.inr rfl)) (fun _ _ _ _ => pifs_nil) (fun _ _ _ _ => (pe_dget (hu_of hr) (pv 1) (pv 0) (fun _ _ => rfl)))) pa_nil)))))), ?_⟩
    have inj := nd_num nd
    have lx : xs.length = C.length := Paired.length pr
    have len : ∀ (D : List (List Key)), (D.map numR).Nodup → (∀ r ∈ D, r ∈ rs) → D.length ≤ 59 := fun D n1 h1 => by
      have := List.Nodup.length_le_of_subset n1 (l₂ := rs.map numR) fun x hx => by
        obtain ⟨r, hr, e⟩ := List.mem_map.mp hx
        exact List.mem_map.mpr ⟨r, h1 r hr, e⟩
      rw [List.length_map, List.length_map] at this
      omega
    intro d hd
    refine ⟨_, rfl, l, rfl, ⟨_, (Same.upd hd).seq hl⟩, for_list (K := K) (a := l) (xs := xs) (fun i σ H2 => ∃ (o2 o3 : Option V) (kvs : List (Key × V)) (D : List (List Key)), σ = [some (.ref l), some (.ref d), o2, o3] ∧ H2 = upd H d (.dK kvs) ∧ Paired (KB K H) kvs D ∧ (D.map numR).Nodup ∧ ∀ r, r ∈ D ↔ ∃ c ∈ C.take i, r ∈ c) ⟨none, none, [], [], rfl, rfl, .nil, List.nodup_nil, fun r => by simp⟩ (fun i σ H2 _ ⟨_, _, _, _, _, e, _⟩ => by rw [e]; exact (Same.upd hd).seq hl) ?_ ?_⟩
    · rintro i y σ H2 hi ⟨o2, o3, kvs, D, rfl, rfl, kb, nd2, hD⟩
      obtain ⟨c, hc, b, rfl, hb⟩ := paired_at pr hi
      have cin := List.mem_of_getElem? hc
      obtain ⟨lay, ys, hy, py⟩ := id hb
      have ly : ys.length = c.length := Paired.length py
      refine ⟨_, rfl, b, rfl, ⟨_, (Same.upd hd).tup hy⟩, for_tup (K := K) (a := b) (xs := ys) (fun j σ H2 => ∃ (o3 : Option V) (kvs : List (Key × V)) (D : List (List Key)), σ = [some (.ref l), some (.ref d), some (.ref b), o3] ∧ H2 = upd H d (.dK kvs) ∧ Paired (KB K H) kvs D ∧ (D.map numR).Nodup ∧ ∀ r, r ∈ D ↔ (∃ c' ∈ C.take i, r ∈ c') ∨ r ∈ c.take j) ⟨o3, kvs, D, rfl, rfl, kb, nd2, fun r => by rw [hD]; simp⟩ (fun j σ H2 _ ⟨_, _, _, _, e, _⟩ => by rw [e]; exact (Same.upd hd).tup hy) ?_ ?_⟩
      · rintro j y σ H2 hj ⟨o3', kvs', D', rfl, rfl, kb', nd', hD'⟩
        obtain ⟨r, hr, a, rfl, ha⟩ := paired_at py hj
        have rin : r ∈ c := List.mem_of_getElem? hr
        have rrs := hsub c cin r rin
        have bur : BurE K H (.ref a) r := ⟨lay r rin, a, rfl, ha⟩
        have Dsub : ∀ x ∈ D', x ∈ rs := fun x hx => by
          rcases (hD' x).mp hx with ⟨c', hc', z⟩ | z
          · exact hsub c' (List.mem_of_mem_take hc') x z
          · exact hsub c cin x (List.mem_of_mem_take z)
        have ub : ∀ x ∈ D', numR x = numR r → x = r := fun x hx e => inj x (Dsub x hx) r rrs e
        have lk : kvs'.length ≤ 59 := by rw [Paired.length kb']; exact len D' nd' Dsub
        have put := kb_put bur kb' ub
        have fin : ∀ x, x ∈ addR D' r ↔ (∃ c' ∈ C.take i, x ∈ c') ∨ x ∈ c.take (j + 1) := fun x => by
          rw [addR_mem ub, hD', List.take_add_one, hr, Option.toList_some, List.mem_append, List.mem_singleton, or_assoc]
        have nda := addR_nd (r := r) nd'
        obtain ⟨n, k, x, m, u, er⟩ := hib r rrs
        have en : numR r = n := by rw [er]; rfl
        rw [en] at put
        rw [er] at ha
        refine ⟨_, rfl, _, rfl, _, rfl, a, _, _, _, rfl, rfl, (Same.upd hd).tup ha, (atI_nat (j := 0) rfl), d, _, rfl, DPut.k (k := .inl n) upd_same (small1000 (by omega)), ?_⟩
        exact ⟨_, _, addR D' r, rfl, by rw [upd_upd], put, nda, fin⟩
      · rintro σ H2 ⟨o3', kvs', D', rfl, rfl, kb', nd', hD'⟩
        refine ⟨_, _, kvs', D', rfl, rfl, kb', nd', fun r => ?_⟩
        rw [hD', ly, List.take_length, List.take_add_one, hc, Option.toList_some]
        constructor
        · rintro (⟨c', h1, h2⟩ | h)
          · exact ⟨c', List.mem_append_left _ h1, h2⟩
          · exact ⟨c, List.mem_append_right _ (List.mem_singleton.mpr rfl), h⟩
        · rintro ⟨c', h1, h2⟩
          rcases List.mem_append.mp h1 with z | z
          · exact .inl ⟨c', z, h2⟩
          · rw [List.mem_singleton.mp z] at h2; exact .inr h2
    · rintro σ H2 ⟨o2, o3, kvs, D, rfl, rfl, kb, nd2, hD⟩
      rw [lx, List.take_length] at hD
      have Dsub : ∀ x ∈ D, x ∈ rs := fun x hx => by
        obtain ⟨c', hc', z⟩ := (hD x).mp hx
        exact hsub c' hc' x z
      have lD := len D nd2 Dsub
      have s1 := Same.upd (o := .dK kvs) hd
      have hd1 : (upd H d (.dK kvs)) d = some (.dK kvs) := upd_same
      generalize (upd H d (.dK kvs)) = H1 at s1 hd1 ⊢
      refine ⟨_, rfl, d, kvs, D.map numR, rfl, .inl hd1, kb_keys kb, by rw [List.length_map]; omega, fun l4 ns' hl4 pm so => ?_⟩
      have s4 := Same.upd (o := .lst (ns'.map V.int)) hl4
      have h4 : (upd H1 l4 (.lst (ns'.map V.int))) l4 = some (.lst (ns'.map V.int)) := upd_same
      have ln : ns'.length ≤ 59 := by rw [pm.length_eq, List.length_map]; exact lD
      have hd4 := s4 _ _ hd1
      have s14 := s1.trans s4
      generalize (upd H1 l4 (.lst (ns'.map V.int))) = H4 at s4 h4 hd4 s14 ⊢
      refine ⟨l4, rfl, ⟨_, SqL.of h4⟩, fun A1 hA1 => ?_⟩
      refine compL (K := K) (a := l4) (xs := ns'.map V.int) (fun i acc H5 => H5 = upd H4 A1 (.lst acc) ∧ ∃ T : List (List Key), Paired (BurE K H) acc T ∧ T.map numR = ns'.take i ∧ ∀ r ∈ T, r ∈ D) ⟨rfl, [], .nil, rfl, fun _ z => nomatch z⟩ (fun i acc H5 _ ⟨e, _⟩ => by rw [e]; exact (Same.upd hA1).seq (SqL.of h4)) ?_ ?_
      · rintro i y acc H5 hi ⟨rfl, T, pT, mT, sT⟩
        obtain ⟨n, hn, rfl⟩ : ∃ n, ns'[i]? = some n ∧ y = .int n := by
          rw [List.getElem?_map] at hi
          cases e : ns'[i]? with
          | none => rw [e] at hi; cases hi
          | some n => rw [e] at hi; cases hi; exact ⟨n, rfl, rfl⟩
        obtain ⟨v, r, ev, hr, er, hv⟩ := kb_val kb (pm.mem_iff.mp (List.mem_of_getElem? hn))
        have dg := DGet.k (k := .inl n) ((Same.upd (o := .lst acc) hA1) _ _ hd4)
        rw [ev] at dg
        refine ⟨_, rfl, _, rfl, d, _, rfl, dg, upd_same, small1000 ?_, by rw [upd_upd], T ++ [r], Paired.app pT (.cons hv .nil), ?_, fun x hx => ?_⟩
        · have l1 : acc.length = T.length := Paired.length pT
          have l2 := congrArg List.length mT
          rw [List.length_map, List.length_take] at l2
          omega
        · rw [List.map_append, mT, List.take_add_one, hn, Option.toList_some, List.map_cons, List.map_nil, er]
        · rcases List.mem_append.mp hx with z | z
          · exact sT x z
          · rw [List.mem_singleton.mp z]; exact hr
      · rintro acc H5 ⟨rfl, T, pT, mT, sT⟩
        rw [List.length_map, List.take_length] at mT
        have s5 := Same.upd (o := .lst acc) hA1
        refine ⟨A1, _, rfl, .inl ⟨SqL.of upd_same, fun a ha => ?_⟩⟩
        have s6 := Same.upd (o := .tup acc) ha
        have sZ := s14.trans (s5.trans s6)
        exact q a T _ sZ (bs_of nd2 hD pm so mT sT) (ColV.of (SqT.of upd_same) (Paired.imp (fun _ _ z => BurE.tk sZ.tk z) pT))
noncomputable def sp_law_behind (K : PySem.W.Frag) : Sp := fun vs H Q _ => ∃ (a t : Addr) (rb : V) (bb : List Key) (ts : List Int) (c : Col), vs = [.ref a, rb, .ref t] ∧ BurE K H rb bb ∧ ColV K H a c ∧ (∀ r ∈ c, IsBur r) ∧ c.length ≤ 100 ∧ SqT K H t (ts.map V.int) ∧ ∀ b H', Same H H' → ColV K H' b (layC (some ts) bb c) → Q (.ref b) H'
theorem sc_law_behind : FnScope ["_law_column", "_law_burden", "_law_told", "_law_place"] ["_law_column", "_law_burden", "_law_told"] (defScope s_law_behind) := ⟨rfl, rfl, rfl, by decide +kernel, rfl, by decide +kernel, by decide +kernel⟩
set_option maxHeartbeats 4000000 in
theorem ok_law_behind (T : Tx K mg "_law_behind" s_law_behind ["_law_column", "_law_burden", "_law_told"]) (B : Bn mg) : Df P w K mg base 1 "_law_behind" ["_law_column", "_law_burden", "_law_told"] (sp_law_behind K) := by
  refine T.df sc_law_behind (fun vs H Q E h => ?_) (fun f cdv A outer s H vs Q E hr h => ?_)
  · obtain ⟨a, t, rb, bb, ts, c, rfl, hbb, hc, hb, hl, ht, q⟩ := h
    rfl
  · obtain ⟨a, t, rb, bb, ts, c, rfl, hbb, hc, hb, hl, ht, q⟩ := h
    refine ⟨_, (pss_cons (ps_set (i := 3) sc_law_behind.nd rfl (by first | exact Or.inl rfl | exact Or.inr rfl) (pe_callB call_len_seq (by rfl) B.len PySem.boot_len (pa_cons (pv 0) pa_nil)))
      (pss_cons (ps_while PassesOwn.never ((pw_and (pt_cmpR op_gt (pv 3) pe_int (nomark _)) (pw_and1 (pt_cmpR op_notIn_seq (pe_ix ix_tup (pe_ix ix_tup (pv 0) (pe_op op_sub (pv 3) pe_int) (fun _ _ => rfl)) pe_int (fun _ _ => rfl)) (pv 2) (by with_unfolding_all rfl)))).pt) (pss_one (ps_set (i := 3) sc_law_behind.nd rfl (by first | exact Or.inl rfl | exact Or.inr rfl) (pe_op op_sub (pv 3) pe_int))))
      (pss_one (ps_ret (pe_op op_catA (pe_op op_catA (pe_slice sl_tupA (pv 0) po_none (po_some (pv 3))) (pe_tup (pa_cons (pv 1) pa_nil))) (pe_slice sl_tupA (pv 0) (po_some (pv 3)) po_none)))))), ?_⟩
    obtain ⟨xs, hx, pr⟩ := hc.bur
    have lx : xs.length = c.length := Paired.length pr
    refine ⟨_, rfl, a, _, rfl, .inr hx, ?_⟩
    rw [lx]
    refine ⟨fun m σ H2 => ∃ j : Nat, σ = [some (.ref a), some rb, some (.ref t), some (.int (j : Nat))] ∧ H2 = H ∧ m = j ∧ j ≤ c.length ∧ ∀ i r, j ≤ i → c[i]? = some r → ¬ numR r ∈ ts, ⟨_, c.length, rfl, rfl, rfl, Nat.le_refl _, fun i r hi hr => ?_⟩, ?_⟩
    · have := (List.getElem?_eq_some_iff.mp hr).1
      omega
    rintro m σ H2 ⟨j, rfl, e2, hmj, hj, hn⟩
    cases e2
    refine ⟨_, rfl, _, _, rfl, rfl, _, rfl, ?_⟩
    refine ite2 (fun h1 => ?_) (fun h1 => ?_)
    · have h1' : (0 : Int) < (j : Int) := of_decide_eq_true h1
      have jl : j - 1 < c.length := by omega
      obtain ⟨r, hr⟩ : ∃ r, c[j - 1]? = some r := ⟨_, List.getElem?_eq_getElem jl⟩
      obtain ⟨vv, hvv⟩ : ∃ v, xs[j - 1]? = some v := ⟨_, List.getElem?_eq_getElem (by omega)⟩
      obtain ⟨r', hr', lay, ab, rfl, ha⟩ := paired_at pr hvv
      rw [hr] at hr'
      cases hr'
      obtain ⟨nn, k, x, m1, u, er⟩ := hb r (List.mem_of_getElem? hr)
      have en : numR r = nn := by rw [er]; rfl
      rw [er] at ha
      have eat : atI xs ((j : Int) - 1) = some (.ref ab) := by
        rw [show (j : Int) - 1 = ((j - 1 : Nat) : Int) by omega]
        exact atI_nat hvv
      refine ⟨_, rfl, _, rfl, _, _, rfl, rfl, a, _, _, _, rfl, rfl, hx, eat, ab, _, _, _, rfl, rfl, ha, (atI_nat (j := 0) rfl), _, rfl, t, _, rfl, .inr ht, rfl, flat_ints ts, _, rfl, ?_⟩
      show if (!inV (.int nn) (ts.map V.int)) = true then _ else _
      rw [inV_ints]
      refine ite2 (fun h2 => ?_) (fun h2 => ?_)
      · have nin : ¬ numR r ∈ ts := by
          rw [en]
          intro z
          rw [decide_eq_true z] at h2
          exact absurd h2 (by decide)
        refine ⟨fun σ' H' => σ' = [some (.ref a), some rb, some (.ref t), some (.int ((j : Int) - 1))] ∧ H' = H, ?_, ?_⟩
        · rintro σ' H' ⟨rfl, rfl⟩
          refine ⟨j - 1, by omega, j - 1, by rw [show (j : Int) - 1 = ((j - 1 : Nat) : Int) by omega], rfl, rfl, by omega, fun i r' hi hr' => ?_⟩
          rcases Nat.lt_or_ge i j with z | z
          · have e : i = j - 1 := by omega
            subst e
            rw [hr] at hr'
            cases hr'
            exact nin
          · exact hn i r' z hr'
        · exact ⟨_, rfl, _, _, rfl, rfl, rfl, rfl⟩
      have hin : numR r ∈ ts := by
        rw [en]
        refine Decidable.byContradiction fun z => h2 ?_
        rw [decide_eq_false z]
        rfl
      have isb : IsBh ts c j := ⟨hj, fun _ => ⟨r, hr, hin⟩, hn⟩
      rw [isb.uniq (isBh_bh ts c)]
      have hle := (isBh_bh ts c).le
      have s1 := Same.refl H
      refine ⟨_, rfl, _, rfl, _, rfl, a, xs, rfl, s1.tup hx, fun r1 H2 s2 h2 => ?_⟩
      rw [cut_hi (by omega)] at h2
      refine ⟨_, rfl, len_ok rfl, fun r3 hr3 => ?_⟩
      have s3 := Same.upd (o := .tup [rb]) hr3
      refine ⟨r1, r3, _, _, rfl, rfl, s3.tup h2, SqT.of upd_same, Nat.le_of_lt (small1000 (by rw [List.length_take]; show _ + 1 ≤ 1000; omega)), fun r4 H4 s4 h4 => ?_⟩
      have s14 := s1.trans (s2.trans (s3.trans s4))
      refine ⟨_, rfl, _, rfl, _, rfl, a, xs, rfl, s14.tup hx, fun r5 H5 s5 h5 => ?_⟩
      rw [cut_lo (by omega)] at h5
      refine ⟨r4, r5, _, _, rfl, rfl, s5.tup h4, h5, Nat.le_of_lt (small1000 (by rw [List.length_append, List.length_take, List.length_drop]; show _ + 1 + _ ≤ 1000; omega)), fun r6 H6 s6 h6 => ?_⟩
      have sA := s14.trans (s5.trans s6)
      refine q r6 H6 sA ?_
      have prA := Paired.imp (fun _ _ z => BurE.tk sA.tk z) pr
      exact ColV.of h6 (Paired.app (Paired.app (paired_take _ prA).1 (.cons (hbb.tk sA.tk) .nil)) (paired_take _ prA).2)
    · have j0 : j = 0 := by
        have : ¬ (0 : Int) < (j : Int) := fun z => h1 (decide_eq_true z)
        omega
      have isb : IsBh ts c j := ⟨hj, fun z => absurd j0 z, hn⟩
      rw [isb.uniq (isBh_bh ts c)]
      have hle := (isBh_bh ts c).le
      have s1 := Same.refl H
      refine ⟨_, rfl, _, rfl, _, rfl, a, xs, rfl, s1.tup hx, fun r1 H2 s2 h2 => ?_⟩
      rw [cut_hi (by omega)] at h2
      refine ⟨_, rfl, len_ok rfl, fun r3 hr3 => ?_⟩
      have s3 := Same.upd (o := .tup [rb]) hr3
      refine ⟨r1, r3, _, _, rfl, rfl, s3.tup h2, SqT.of upd_same, Nat.le_of_lt (small1000 (by rw [List.length_take]; show _ + 1 ≤ 1000; omega)), fun r4 H4 s4 h4 => ?_⟩
      have s14 := s1.trans (s2.trans (s3.trans s4))
      refine ⟨_, rfl, _, rfl, _, rfl, a, xs, rfl, s14.tup hx, fun r5 H5 s5 h5 => ?_⟩
      rw [cut_lo (by omega)] at h5
      refine ⟨r4, r5, _, _, rfl, rfl, s5.tup h4, h5, Nat.le_of_lt (small1000 (by rw [List.length_append, List.length_take, List.length_drop]; show _ + 1 + _ ≤ 1000; omega)), fun r6 H6 s6 h6 => ?_⟩
      have sA := s14.trans (s5.trans s6)
      refine q r6 H6 sA ?_
      have prA := Paired.imp (fun _ _ z => BurE.tk sA.tk z) pr
      exact ColV.of h6 (Paired.app (Paired.app (paired_take _ prA).1 (.cons (hbb.tk sA.tk) .nil)) (paired_take _ prA).2)
noncomputable def sp_law_filled (K : PySem.W.Frag) : Sp := fun vs H Q _ => ∃ (a : Addr) (n : Int) (rb : V) (bb : List Key) (wi : Bool) (c : Col), vs = [.ref a, .int n, rb, .bl wi] ∧ BurE K H rb bb ∧ ColV K H a c ∧ (∀ r ∈ c, IsBur r) ∧ c.length ≤ 90 ∧ ∀ b H', Same H H' → ColV K H' b (if wi = true then filC n bb c else wo n c) → Q (.ref b) H'
theorem sc_law_filled : FnScope ["_law_column", "_law_number_here", "_law_burden", "_law_within", "_law_found", "_law_one"] ["_law_column", "_law_number_here", "_law_burden", "_law_within"] (defScope s_law_filled) := ⟨rfl, rfl, rfl, by decide +kernel, rfl, by decide +kernel, by decide +kernel⟩
set_option maxHeartbeats 4000000 in
theorem ok_law_filled (T : Tx K mg "_law_filled" s_law_filled ["_law_column", "_law_number_here", "_law_burden", "_law_within"]) (B : Bn mg) : Df P w K mg base 1 "_law_filled" ["_law_column", "_law_number_here", "_law_burden", "_law_within"] (sp_law_filled K) := by
  refine T.df sc_law_filled (fun vs H Q E h => ?_) (fun f cdv A outer s H vs Q E hr h => ?_)
  · obtain ⟨a, n, rb, bb, wi, c, rfl, hbb, hc, hb, hl, q⟩ := h
    rfl
  · obtain ⟨a, n, rb, bb, wi, c, rfl, hbb, hc, hb, hl, q⟩ := h
    refine ⟨_, (pss_cons (ps_set (i := 4) sc_law_filled.nd rfl (by first | exact Or.inl rfl | exact Or.inr rfl) (pe_lst pa_nil))
      (pss_cons (ps_for PassesOwn.never rfl (pi_tup (pv 0)) (pg_name (i := 5) sc_law_filled.nd rfl (by first | exact Or.inl rfl | exact Or.inr rfl)) (pss_one (ps_if (pt_cmpR op_ne (pe_ix ix_tup (pv 5) pe_int (fun _ _ => rfl)) (pv 1) (nomark _)) (pss_one (ps_expr (pe_bm PySem.F.plainAttrs_list PySem.F.slot_list_append PySem.F.type_list_append mt_append (pv 4) (pa_cons (pv 5) pa_nil)))) (pss_one (ps_if (pt_val (pv 3)) (pss_one (ps_expr (pe_bm PySem.F.plainAttrs_list PySem.F.slot_list_append PySem.F.type_list_append mt_append (pv 4) (pa_cons (pv 2) pa_nil)))) pss_nil)))))
      (pss_consE (ps_if ((pw_and (pt_val (pv 3)) (pw_and1 (pt_cmpR op_notIn_seq (pv 1) (pe_lcomp ["_law_one"] [] (clOf _ []) rfl (by rfl) rfl (by decide +kernel) (by decide +kernel) (clOf_cells (by rfl)) (kin_of (by rfl)) (fun p hp => by cases hp) (fun p hp => by cases hp) (wk_name (by decide)) (pi_tup (pv 0)) (fun _ _ _ _ => pg_name (i := 0) (show (["_law_one"] : List Str).Nodup by decide +kernel) rfl (Or.inl rfl) (Or.inr rfl)) (fun _ _ _ _ => pifs_nil) (fun _ _ _ _ => (pe_ix (ix_tupK (K := K) rfl) (pv 0) pe_int (fun _ _ => rfl)))) (by with_unfolding_all rfl)))).pt) (pss_one (ps_expr (pe_bm PySem.F.plainAttrs_list PySem.F.slot_list_append PySem.F.type_list_append mt_append (pv 4) (pa_cons (pv 2) pa_nil)))) pss_nil)
      (pss_one (ps_ret (pe_callTy call_tuple_of (by rfl) B.tuple boot_tuple (pa_cons (pv 4) pa_nil))))))), ?_⟩
    obtain ⟨xs, hx, pr⟩ := hc.bur
    have lx : xs.length = c.length := Paired.length pr
    refine ⟨len_ok rfl, fun l hl1 => ?_⟩
    cases wi with
    | true =>
      refine ⟨_, rfl, a, rfl, ⟨_, (Same.upd hl1).tup hx⟩, for_tup (K := K) (a := a) (xs := xs) (fun i σ H2 => ∃ (o5 : Option V) (ys : List V), σ = [some (.ref a), some (.int n), some rb, some (.bl true), some (.ref l), o5] ∧ H2 = upd H l (.lst ys) ∧ Paired (BurE K H) ys ((c.take i).map fun r => if numR r = n then bb else r)) ⟨none, [], rfl, rfl, .nil⟩ (fun i σ H2 _ ⟨_, _, _, e, _⟩ => by rw [e]; exact (Same.upd hl1).tup hx) ?_ ?_⟩
      · rintro i y σ H2 hi ⟨o5, ys, rfl, rfl, py⟩
        obtain ⟨r, hr, bur⟩ := paired_at pr hi
        obtain ⟨lay, ab, rfl, ha⟩ := id bur
        obtain ⟨nn, k, x, m, u, er⟩ := hb r (List.mem_of_getElem? hr)
        have en : numR r = nn := by rw [er]; rfl
        rw [er] at ha
        have tk : c.take (i + 1) = c.take i ++ [r] := by rw [List.take_add_one, hr]; rfl
        have i100 : i < xs.length := (List.getElem?_eq_some_iff.mp hi).1
        have s1 := Same.upd (o := .lst ys) hl1
        have lys : ys.length ≤ 100 := by
          rw [Paired.length py]
          rw [List.length_map, List.length_take]
          omega
        refine ⟨_, rfl, ab, _, _, _, rfl, rfl, s1.tup ha, (atI_nat (j := 0) rfl), _, rfl, rfl, _, rfl, ?_⟩
        refine ite2 (fun h1 => ?_) (fun h1 => ?_)
        · have ne : ¬ numR r = n := by rw [en]; exact vne.mp h1
          refine ⟨_, rfl, .inl ⟨rfl, _, SqL.of upd_same⟩, _, rfl, l, _, _, rfl, rfl, upd_same, small1000 (by omega), _, ys ++ [.ref ab], rfl, by rw [upd_upd], ?_⟩
          rw [tk, filC_snoc, if_neg ne]
          exact Paired.app py (.cons bur .nil)
        · have e : numR r = n := by rw [en]; exact Decidable.byContradiction fun z => h1 (vne.mpr z)
          refine ⟨_, rfl, _, rfl, iteT ?_⟩
          refine ⟨_, rfl, .inl ⟨rfl, _, SqL.of upd_same⟩, _, rfl, l, _, _, rfl, rfl, upd_same, small1000 (by omega), _, ys ++ [rb], rfl, by rw [upd_upd], ?_⟩
          rw [tk, filC_snoc, if_pos e]
          exact Paired.app py (.cons hbb .nil)
      · rintro σ H2 ⟨o5, ys, rfl, rfl, py⟩
        rw [lx, List.take_length] at py
        have lys : ys.length ≤ 100 := by
          rw [Paired.length py, List.length_map]
          omega
        have s1 := Same.upd (o := .lst ys) hl1
        have k1 : (upd H l (.lst ys)) l = some (.lst ys) := upd_same
        have py1 := Paired.imp (fun _ _ z => BurE.tk s1.tk z) py
        have pr1 := Paired.imp (fun _ _ z => BurE.tk s1.tk z) pr
        have hx1 := s1.tup hx
        have hbb1 := hbb.tk s1.tk
        generalize (upd H l (.lst ys)) = H1 at s1 k1 py1 pr1 hx1 hbb1 ⊢
        refine ⟨fun σ' H' => ∃ ys' : List V, σ' = [some (.ref a), some (.int n), some rb, some (.bl true), some (.ref l), o5] ∧ Same H H' ∧ H' l = some (.lst ys') ∧ Paired (BurE K H') ys' (filC n bb c), ?_, ?_⟩
        · refine ⟨_, rfl, _, rfl, iteT ?_⟩
          refine ⟨_, rfl, _, rfl, a, rfl, ⟨_, hx1⟩, fun D hD => ?_⟩
          refine compT (K := K) (a := a) (xs := xs) (fun i acc H5 => H5 = upd H1 D (.lst acc) ∧ acc = ((c.take i).map numR).map V.int) ⟨rfl, rfl⟩ (fun i acc H5 _ ⟨e, _⟩ => by rw [e]; exact (Same.upd hD).tup hx1) ?_ ?_
          · rintro i y acc H5 hi ⟨rfl, rfl⟩
            obtain ⟨r, hr, lay, ab, rfl, ha⟩ := paired_at pr1 hi
            obtain ⟨nn, k, x, m, u, er⟩ := hb r (List.mem_of_getElem? hr)
            rw [er] at ha
            have i100 : i < xs.length := (List.getElem?_eq_some_iff.mp hi).1
            refine ⟨_, rfl, ab, _, _, _, rfl, rfl, (Same.upd hD).tup ha, (atI_nat (j := 0) rfl), upd_same, small1000 (by rw [List.length_map, List.length_map, List.length_take]; omega), by rw [upd_upd], ?_⟩
            rw [List.take_add_one, hr, Option.toList_some, List.map_append, List.map_append, er]
            rfl
          · rintro acc H5 ⟨rfl, rfl⟩
            rw [lx, List.take_length]
            have sD := Same.upd (o := .lst ((c.map numR).map V.int)) hD
            refine ⟨D, _, rfl, .inl (SqL.of upd_same), rfl, flat_ints _, _, rfl, ?_⟩
            show if (!inV (.int n) ((c.map numR).map V.int)) = true then _ else _
            rw [inV_ints]
            have nlD : l ≠ D := fun z => by rw [← z, k1] at hD; cases hD
            refine ite2 (fun h1 => ?_) (fun h1 => ?_)
            · have na : ¬ anyN n c = true := fun z => by
                obtain ⟨r, hr, e⟩ := anyN_true.mp z
                rw [decide_eq_true (show n ∈ c.map numR from List.mem_map.mpr ⟨r, hr, e⟩)] at h1
                exact absurd h1 (by decide)
              have kD := sD _ _ k1
              have tkl := TK.lst (o := .lst (ys ++ [rb])) kD
              refine ⟨_, rfl, .inl ⟨rfl, _, SqL.of kD⟩, _, rfl, l, _, _, rfl, rfl, kD, small1000 (by omega), ys ++ [rb], rfl, fun b5 o5 e5 => ?_, upd_same, ?_⟩
              · rw [upd_ne (fun z => by rw [z, hl1] at e5; cases e5)]
                exact sD _ _ (s1 _ _ e5)
              · unfold filC
                rw [if_neg na]
                exact Paired.app (Paired.imp (fun _ _ z => BurE.tk tkl (BurE.tk sD.tk z)) py1) (.cons ((hbb1.tk sD.tk).tk tkl) .nil)
            · have ya : anyN n c = true := by
                refine Decidable.byContradiction fun z => h1 ?_
                rw [decide_eq_false (fun w => z ?_)]
                · rfl
                · obtain ⟨r, hr, e⟩ := List.mem_map.mp w
                  exact anyN_true.mpr ⟨r, hr, e⟩
              refine ⟨ys, rfl, s1.trans sD, sD _ _ k1, ?_⟩
              unfold filC
              rw [if_pos ya, List.append_nil]
              exact Paired.imp (fun _ _ z => BurE.tk sD.tk z) py1
        · rintro σ' H' ⟨ys', rfl, s', h', py'⟩
          refine ⟨_, rfl, l, _, rfl, .inl ⟨SqL.of h', fun p hp => ?_⟩⟩
          have sp := Same.upd (o := .tup ys') hp
          refine q p _ (s'.trans sp) ?_
          rw [if_pos rfl]
          exact ColV.of (SqT.of upd_same) (Paired.imp (fun _ _ z => BurE.tk sp.tk z) py')
    | false =>
      refine ⟨_, rfl, a, rfl, ⟨_, (Same.upd hl1).tup hx⟩, for_tup (K := K) (a := a) (xs := xs) (fun i σ H2 => ∃ (o5 : Option V) (ys : List V), σ = [some (.ref a), some (.int n), some rb, some (.bl false), some (.ref l), o5] ∧ H2 = upd H l (.lst ys) ∧ Paired (BurE K H) ys (wo n (c.take i))) ⟨none, [], rfl, rfl, .nil⟩ (fun i σ H2 _ ⟨_, _, _, e, _⟩ => by rw [e]; exact (Same.upd hl1).tup hx) ?_ ?_⟩
      · rintro i y σ H2 hi ⟨o5, ys, rfl, rfl, py⟩
        obtain ⟨r, hr, bur⟩ := paired_at pr hi
        obtain ⟨lay, ab, rfl, ha⟩ := id bur
        obtain ⟨nn, k, x, m, u, er⟩ := hb r (List.mem_of_getElem? hr)
        have en : numR r = nn := by rw [er]; rfl
        rw [er] at ha
        have tk : c.take (i + 1) = c.take i ++ [r] := by rw [List.take_add_one, hr]; rfl
        have i100 : i < xs.length := (List.getElem?_eq_some_iff.mp hi).1
        have s1 := Same.upd (o := .lst ys) hl1
        have lys : ys.length ≤ 100 := by
          rw [Paired.length py]
          have := wo_len n (c.take i)
          rw [List.length_take] at this
          omega
        refine ⟨_, rfl, ab, _, _, _, rfl, rfl, s1.tup ha, (atI_nat (j := 0) rfl), _, rfl, rfl, _, rfl, ?_⟩
        refine ite2 (fun h1 => ?_) (fun h1 => ?_)
        · have ne : ¬ numR r = n := by rw [en]; exact vne.mp h1
          refine ⟨_, rfl, .inl ⟨rfl, _, SqL.of upd_same⟩, _, rfl, l, _, _, rfl, rfl, upd_same, small1000 (by omega), _, ys ++ [.ref ab], rfl, by rw [upd_upd], ?_⟩
          rw [tk, wo_snoc, if_neg ne]
          exact Paired.app py (.cons bur .nil)
        · have e : numR r = n := by rw [en]; exact Decidable.byContradiction fun z => h1 (vne.mpr z)
          refine ⟨_, rfl, _, rfl, iteF ?_⟩
          refine ⟨_, ys, rfl, rfl, ?_⟩
          rw [tk, wo_snoc, if_pos e, List.append_nil]
          exact py
      · rintro σ H2 ⟨o5, ys, rfl, rfl, py⟩
        rw [lx, List.take_length] at py
        refine ⟨fun σ' H' => σ' = [some (.ref a), some (.int n), some rb, some (.bl false), some (.ref l), o5] ∧ H' = upd H l (.lst ys), ?_, ?_⟩
        · exact ⟨_, rfl, _, rfl, iteF (iteF ⟨rfl, rfl⟩)⟩
        · rintro σ' H' ⟨rfl, rfl⟩
          refine ⟨_, rfl, l, _, rfl, .inl ⟨SqL.of upd_same, fun p hp => ?_⟩⟩
          have ss := (Same.upd (o := .lst ys) hl1).trans (Same.upd (o := .tup ys) hp)
          refine q p _ ss ?_
          rw [if_neg (by decide)]
          exact ColV.of (SqT.of upd_same) (Paired.imp (fun _ _ z => BurE.tk ss.tk z) py)
noncomputable def sp_law_waived (K : PySem.W.Frag) : Sp := fun vs H Q _ => ∃ (a : Addr) (n h : Int) (c : Col), vs = [.ref a, .int n, .int h] ∧ ColV K H a c ∧ (∀ r ∈ c, IsBur r) ∧ (c.map numR).Nodup ∧ c.length ≤ 90 ∧ ∀ b H', Same H H' → ColV K H' b (waiC n h c) → Q (.ref b) H'
theorem sc_law_waived : FnScope ["_law_column", "_law_number_here", "_law_ahead", "_law_found", "_law_one", "_law_later"] ["_law_column", "_law_number_here", "_law_ahead"] (defScope s_law_waived) := ⟨rfl, rfl, rfl, by decide +kernel, rfl, by decide +kernel, by decide +kernel⟩
set_option maxHeartbeats 4000000 in
theorem ok_law_waived (T : Tx K mg "_law_waived" s_law_waived ["_law_column", "_law_number_here", "_law_ahead"]) (B : Bn mg) : Df P w K mg base 1 "_law_waived" ["_law_column", "_law_number_here", "_law_ahead"] (sp_law_waived K) := by
  refine T.df sc_law_waived (fun vs H Q E h => ?_) (fun f cdv A outer s H vs Q E hr h => ?_)
  · obtain ⟨a, n, h, c, rfl, hc, hb, nd, hl, q⟩ := h
    rfl
  · obtain ⟨a, n, h, c, rfl, hc, hb, nd, hl, q⟩ := h
    refine ⟨_, (pss_cons (ps_set (i := 3) sc_law_waived.nd rfl (by first | exact Or.inl rfl | exact Or.inr rfl) (pe_lst pa_nil))
      (pss_cons (ps_for PassesOwn.never rfl (pi_tup (pv 0)) (pg_name (i := 4) sc_law_waived.nd rfl (by first | exact Or.inl rfl | exact Or.inr rfl)) (pss_cons (ps_if (pt_cmpR op_eq (pe_ix ix_tup (pv 4) pe_int (fun _ _ => rfl)) (pv 1) (nomark _)) (pss_cons (ps_set (i := 5) sc_law_waived.nd rfl (by first | exact Or.inl rfl | exact Or.inr rfl) (pe_slice sl_tupA (pv 0) (po_some (pe_callB call_len_seq (by rfl) B.len PySem.boot_len (pa_cons (pv 3) pa_nil))) po_none))
      (pss_cons (ps_set (i := 3) sc_law_waived.nd rfl (by first | exact Or.inl rfl | exact Or.inr rfl) (pe_op op_cat (pv 3) (pe_lcomp ["_law_other"] [("_law_ahead", 2)] (clOf _ ["_law_ahead"]) rfl (by rfl) rfl (by decide +kernel) (by decide +kernel) (clOf_cells (by rfl)) (kin_of (by rfl)) (fun p hp => by
        cases hp with
        | head => exact ⟨rfl, rfl⟩
        | tail _ hp => exact (by cases hp)) (fun p hp => by
        cases hp with
        | head => exact rfl
        | tail _ hp => exact (by cases hp)) (wk_name (by decide)) (pi_tup (pv 5)) (fun _ _ _ _ => pg_name (i := 0) (show (["_law_other", "_law_ahead"] : List Str).Nodup by decide +kernel) rfl (Or.inl rfl) (Or.inr rfl)) (fun _ _ _ _ => pifs_one (pt_cmpR op_eq (pe_ix (ix_tupK (K := K) rfl) (pv 0) pe_int (fun _ _ => rfl)) (pv 1) (nomark _))) (fun _ _ _ _ => (pv 0)))))
      (pss_one (ps_ret (pe_callTy call_tuple_of (by rfl) B.tuple boot_tuple (pa_cons (pe_op op_cat (pv 3) (pe_lcomp ["_law_other"] [("_law_ahead", 2)] (clOf _ ["_law_ahead"]) rfl (by rfl) rfl (by decide +kernel) (by decide +kernel) (clOf_cells (by rfl)) (kin_of (by rfl)) (fun p hp => by
        cases hp with
        | head => exact ⟨rfl, rfl⟩
        | tail _ hp => exact (by cases hp)) (fun p hp => by
        cases hp with
        | head => exact rfl
        | tail _ hp => exact (by cases hp)) (wk_name (by decide)) (pi_tup (pv 5)) (fun _ _ _ _ => pg_name (i := 0) (show (["_law_other", "_law_ahead"] : List Str).Nodup by decide +kernel) rfl (Or.inl rfl) (Or.inr rfl)) (fun _ _ _ _ => pifs_one (pt_cmpR op_ne (pe_ix (ix_tupK (K := K) rfl) (pv 0) pe_int (fun _ _ => rfl)) (pv 1) (nomark _))) (fun _ _ _ _ => (pv 0)))) pa_nil)))))) pss_nil)
      (pss_one (ps_expr (pe_bm PySem.F.plainAttrs_list PySem.F.slot_list_append PySem.F.type_list_append mt_append (pv 3) (pa_cons (pv 4) pa_nil))))))
      (pss_one (ps_ret (pv 0))))), ?_⟩
    obtain ⟨xs, hx, pr⟩ := hc.bur
    have lx : xs.length = c.length := Paired.length pr
    refine ⟨len_ok rfl, fun l hl1 => ?_⟩
    refine ⟨_, rfl, a, rfl, ⟨_, (Same.upd hl1).tup hx⟩, for_tup (K := K) (a := a) (xs := xs) (fun i σ H2 => ∃ o4 : Option V, σ = [some (.ref a), some (.int n), some (.int h), some (.ref l), o4, none] ∧ H2 = upd H l (.lst (xs.take i)) ∧ ∀ j r, j < i → c[j]? = some r → numR r ≠ n) ⟨none, rfl, rfl, fun _ _ z => absurd z (Nat.not_lt_zero _)⟩ (fun i σ H2 _ ⟨_, _, e, _⟩ => by rw [e]; exact (Same.upd hl1).tup hx) ?_ ?_⟩
    · rintro i y σ H2 hi ⟨o4, rfl, rfl, hno⟩
      obtain ⟨r, hr, bur⟩ := paired_at pr hi
      obtain ⟨lay, ab, rfl, ha⟩ := id bur
      obtain ⟨nn, k, x, m, u, er⟩ := hb r (List.mem_of_getElem? hr)
      have en : numR r = nn := by rw [er]; rfl
      rw [er] at ha
      have tk : c.take (i + 1) = c.take i ++ [r] := by rw [List.take_add_one, hr]; rfl
      have i100 : i < xs.length := (List.getElem?_eq_some_iff.mp hi).1
      have s1 := Same.upd (o := .lst (xs.take i)) hl1
      have li : (xs.take i).length = i := by rw [List.length_take]; omega
      refine ⟨_, rfl, ab, _, _, _, rfl, rfl, s1.tup ha, (atI_nat (j := 0) rfl), _, rfl, rfl, _, rfl, ?_⟩
      refine ite2 (fun h1 => ?_) (fun h1 => ?_)
      · have e : numR r = n := by rw [en]; exact veq.mp h1
        have hi' : FstN n c i := ⟨r, hr, e, hno⟩
        have k1 : (upd H l (.lst (xs.take i))) l = some (.lst (xs.take i)) := upd_same
        generalize (upd H l (.lst (xs.take i))) = H1 at s1 k1 ⊢
        refine ⟨_, rfl, _, rfl, l, _, rfl, .inl (SqL.of k1), _, rfl, a, xs, rfl, s1.tup hx, fun r5 H5 s5 h5 => ?_⟩
        rw [li, cut_lo (by omega)] at h5
        have s15 := s1.trans s5
        have prD := (paired_take i (Paired.imp (fun _ _ z => BurE.tk s15.tk z) pr)).2
        have prT := (paired_take i (Paired.imp (fun _ _ z => BurE.tk s15.tk z) pr)).1
        have k5 := s5 _ _ k1
        refine ⟨_, rfl, _, rfl, r5, rfl, ⟨_, h5⟩, fun D hD => ?_⟩
        refine compT (K := K) (a := r5) (xs := xs.drop i) (fun i2 acc H6 => H6 = upd H5 D (.lst acc) ∧ Paired (BurE K H5) acc (((c.drop i).take i2).filter fun x => decide (numR x = h))) ⟨rfl, .nil⟩ (fun i2 acc H6 _ ⟨e, _⟩ => by rw [e]; exact (Same.upd hD).tup h5) ?_ ?_
        · rintro i2 y2 acc H6 hi2 ⟨rfl, pa⟩
          obtain ⟨r2, hr2, bur2⟩ := paired_at prD hi2
          obtain ⟨lay2, ab2, rfl, ha2⟩ := id bur2
          obtain ⟨nn2, k2, x2, m2, u2, er2⟩ := hb r2 (List.mem_of_mem_drop (List.mem_of_getElem? hr2))
          have en2 : numR r2 = nn2 := by rw [er2]; rfl
          rw [er2] at ha2
          have tk2 : (c.drop i).take (i2 + 1) = (c.drop i).take i2 ++ [r2] := by rw [List.take_add_one, hr2]; rfl
          have i2l : i2 < (xs.drop i).length := (List.getElem?_eq_some_iff.mp hi2).1
          rw [List.length_drop] at i2l
          refine ⟨_, rfl, ab2, _, _, _, rfl, rfl, (Same.upd hD).tup ha2, (atI_nat (j := 0) rfl), _, rfl, rfl, _, rfl, ?_⟩
          refine ite2 (fun h2 => ?_) (fun h2 => ?_)
          · have e2 : numR r2 = h := by rw [en2]; exact veq.mp h2
            refine ⟨_, rfl, upd_same, small1000 ?_, by rw [upd_upd], ?_⟩
            · rw [Paired.length pa]
              have := List.length_filter_le (fun x => decide (numR x = h)) ((c.drop i).take i2)
              rw [List.length_take, List.length_drop] at this
              omega
            · rw [tk2, List.filter_append, List.filter_cons_of_pos (by simpa using e2)]
              exact Paired.app pa (.cons bur2 .nil)
          · have e2 : ¬ numR r2 = h := by rw [en2]; exact fun z => h2 (veq.mpr z)
            refine ⟨rfl, ?_⟩
            rw [tk2, List.filter_append, List.filter_cons_of_neg (by simpa using e2), List.filter_nil, List.append_nil]
            exact pa
        · rintro acc H6 ⟨rfl, pa⟩
          rw [List.length_drop, show xs.length - i = (c.drop i).length by rw [List.length_drop]; omega, List.take_length] at pa
          have sD := Same.upd (o := .lst acc) hD
          have la : acc.length ≤ 90 := by
            rw [Paired.length pa]
            have := List.length_filter_le (fun x => decide (numR x = h)) (c.drop i)
            rw [List.length_drop] at this
            omega
          refine ⟨l, D, _, acc, rfl, rfl, sD _ _ k5, upd_same, Nat.le_of_lt (small1000 (by omega)), fun l7 hl7 => ?_⟩
          have s7 := Same.upd (o := .lst (xs.take i ++ acc)) hl7
          have s57 := sD.trans s7
          have k7 : (upd (upd H5 D (.lst acc)) l7 (.lst (xs.take i ++ acc))) l7 = some (.lst (xs.take i ++ acc)) := upd_same
          generalize (upd (upd H5 D (.lst acc)) l7 (.lst (xs.take i ++ acc))) = H7 at s7 s57 k7 ⊢
          have h7 := s57.tup h5
          have prD7 := Paired.imp (fun _ _ z => BurE.tk s57.tk z) prD
          refine ⟨_, rfl, _, rfl, r5, rfl, ⟨_, h7⟩, fun D2 hD => ?_⟩
          refine compT (K := K) (a := r5) (xs := xs.drop i) (fun i2 acc H6 => H6 = upd H7 D2 (.lst acc) ∧ Paired (BurE K H7) acc (((c.drop i).take i2).filter fun x => decide (numR x ≠ h))) ⟨rfl, .nil⟩ (fun i2 acc H6 _ ⟨e, _⟩ => by rw [e]; exact (Same.upd hD).tup h7) ?_ ?_
          · rintro i2 y2 acc H6 hi2 ⟨rfl, pa⟩
            obtain ⟨r2, hr2, bur2⟩ := paired_at prD7 hi2
            obtain ⟨lay2, ab2, rfl, ha2⟩ := id bur2
            obtain ⟨nn2, k2, x2, m2, u2, er2⟩ := hb r2 (List.mem_of_mem_drop (List.mem_of_getElem? hr2))
            have en2 : numR r2 = nn2 := by rw [er2]; rfl
            rw [er2] at ha2
            have tk2 : (c.drop i).take (i2 + 1) = (c.drop i).take i2 ++ [r2] := by rw [List.take_add_one, hr2]; rfl
            have i2l : i2 < (xs.drop i).length := (List.getElem?_eq_some_iff.mp hi2).1
            rw [List.length_drop] at i2l
            refine ⟨_, rfl, ab2, _, _, _, rfl, rfl, (Same.upd hD).tup ha2, (atI_nat (j := 0) rfl), _, rfl, rfl, _, rfl, ?_⟩
            refine ite2 (fun h2 => ?_) (fun h2 => ?_)
            · have e2 : numR r2 ≠ h := by rw [en2]; exact vne.mp h2
              refine ⟨_, rfl, upd_same, small1000 ?_, by rw [upd_upd], ?_⟩
              · rw [Paired.length pa]
                have := List.length_filter_le (fun x => decide (numR x ≠ h)) ((c.drop i).take i2)
                rw [List.length_take, List.length_drop] at this
                omega
              · rw [tk2, List.filter_append, List.filter_cons_of_pos (by simpa using e2)]
                exact Paired.app pa (.cons bur2 .nil)
            · have e2 : ¬ numR r2 ≠ h := by rw [en2]; exact fun z => h2 (vne.mpr z)
              refine ⟨rfl, ?_⟩
              rw [tk2, List.filter_append, List.filter_cons_of_neg (by simpa using e2), List.filter_nil, List.append_nil]
              exact pa
          · rintro acc2 H8 ⟨rfl, pa2⟩
            rw [List.length_drop, show xs.length - i = (c.drop i).length by rw [List.length_drop]; omega, List.take_length] at pa2
            have sD2 := Same.upd (o := .lst acc2) hD
            have la2 : acc2.length ≤ 90 := by
              rw [Paired.length pa2]
              have := List.length_filter_le (fun x => decide (numR x ≠ h)) (c.drop i)
              rw [List.length_drop] at this
              omega
            refine ⟨l7, D2, _, acc2, rfl, rfl, sD2 _ _ k7, upd_same, Nat.le_of_lt (small1000 (by rw [List.length_append]; omega)), fun l9 hl9 => ?_⟩
            have s9 := Same.upd (o := .lst (xs.take i ++ acc ++ acc2)) hl9
            refine ⟨l9, _, rfl, .inl ⟨SqL.of upd_same, fun p hp => ?_⟩⟩
            have sp := Same.upd (o := .tup (xs.take i ++ acc ++ acc2)) hp
            have sT := s57.trans (sD2.trans (s9.trans sp))
            refine q p _ (s15.trans sT) ?_
            rw [← wai_walk nd hi']
            exact ColV.of (SqT.of upd_same) (Paired.app (Paired.app (Paired.imp (fun _ _ z => BurE.tk sT.tk z) prT) (Paired.imp (fun _ _ z => BurE.tk sT.tk z) pa)) (Paired.imp (fun _ _ z => BurE.tk (sD2.trans (s9.trans sp)).tk z) pa2))
      · have ne : numR r ≠ n := by rw [en]; exact fun z => h1 (veq.mpr z)
        refine ⟨_, rfl, .inl ⟨rfl, _, SqL.of upd_same⟩, _, rfl, l, _, _, rfl, rfl, upd_same, small1000 (by omega), _, rfl, ?_, fun j r' hj hr' => ?_⟩
        · rw [upd_upd, List.take_add_one, hi]
          rfl
        · rcases Nat.lt_or_ge j i with z | z
          · exact hno j r' z hr'
          · have e : j = i := by omega
            subst e
            rw [hr] at hr'
            cases hr'
            exact ne
    · rintro σ H2 ⟨o4, rfl, rfl, hno⟩
      refine ⟨_, rfl, q a _ (Same.upd hl1) ?_⟩
      have hn : ∀ r ∈ c, numR r ≠ n := fun r hr => by
        obtain ⟨j, hj, rfl⟩ := List.getElem_of_mem hr
        exact hno j _ (by omega) (List.getElem?_eq_getElem hj)
      unfold waiC
      rw [if_pos (pas_no1 hn)]
      exact hc.tk (Same.upd hl1).tk
noncomputable def sp_law_number (K : PySem.W.Frag) : Sp := fun vs H Q _ => ∃ (z : Int) (a : Addr) (T : Col) (st : Int), vs = [.int z, .ref a, .int st] ∧ ColV K H a T ∧ (∀ r ∈ T, IsBur r) ∧ ∀ n : Int, Q (.int n) H
theorem sc_law_number : FnScope ["_law_number_here", "_law_known", "_law_stranger"] ["_law_number_here", "_law_known", "_law_stranger"] (defScope s_law_number) := ⟨rfl, rfl, rfl, by decide +kernel, rfl, by decide +kernel, by decide +kernel⟩
set_option maxHeartbeats 4000000 in
theorem ok_law_number (T : Tx K mg "_law_number" s_law_number ["_law_number_here", "_law_known", "_law_stranger"]) (B : Bn mg) : Df P w K mg base 1 "_law_number" ["_law_number_here", "_law_known", "_law_stranger"] (sp_law_number K) := by
  refine T.df sc_law_number (fun vs H Q E h => ?_) (fun f cdv A outer s H vs Q E hr h => ?_)
  · obtain ⟨z, a, T, st, rfl, hT, hb, q⟩ := h
    rfl
  · obtain ⟨z, a, T, st, rfl, hT, hb, q⟩ := h
    refine ⟨_, (pss_cons (ps_if ((pw_or (pt_cmpR op_eq (pe_op op_mod (pv 0) pe_int) pe_int (nomark _)) (pw_or1 (pt_cmpR op_eq (pe_callB call_len_seq (by rfl) B.len PySem.boot_len (pa_cons (pv 1) pa_nil)) pe_int (nomark _)))).pt) (pss_one (ps_ret (pv 2))) pss_nil)
      (pss_one (ps_ret (pe_ix ix_tup (pe_ix ix_tup (pv 1) (pe_op op_mod (pe_op op_fdiv (pv 0) pe_int) (pe_callB call_len_seq (by rfl) B.len PySem.boot_len (pa_cons (pv 1) pa_nil))) (fun _ _ => rfl)) pe_int (fun _ _ => rfl))))), ?_⟩
    obtain ⟨xs, hx, pr⟩ := hT.bur
    refine ⟨_, rfl, _, _, rfl, rfl, (by show (0 : Int) < _; decide), rfl, _, rfl, ?_⟩
    refine ite2 (fun h1 => iteT ⟨_, rfl, q st⟩) (fun h1 => ?_)
    refine ⟨_, rfl, a, _, rfl, .inr hx, rfl, _, rfl, ?_⟩
    refine ite2 (fun h2 => ⟨_, rfl, q st⟩) (fun h2 => ?_)
    have l0 : (0 : Int) < (xs.length : Nat) := by
      have : ¬ ((xs.length : Nat) : Int) = 0 := fun e => h2 (veq.mpr e)
      omega
    obtain ⟨v, mv, hv⟩ := at_any (xs := xs) (i := z / 8 % ((xs.length : Nat) : Int)) (Int.emod_nonneg _ (by omega)) (Int.emod_lt_of_pos _ l0)
    obtain ⟨r, hr, lay, ab, rfl, hab⟩ := paired_mem pr mv
    obtain ⟨nn, k, x, m, u, er⟩ := hb r hr
    rw [er] at hab
    exact ⟨_, rfl, _, rfl, _, _, rfl, rfl, ⟨by decide, by decide⟩, _, rfl, a, _, rfl, .inr hx, _, _, rfl, rfl, l0, a, _, _, _, rfl, rfl, hx, hv, ab, _, _, _, rfl, rfl, hab, (atI_nat (j := 0) rfl), q nn⟩
noncomputable def sp_lowest_of (K : PySem.W.Frag) : Sp := fun vs H Q _ => ∃ (r : Addr) (m : Nat) (x : V), vs = [.ref r] ∧ SqT K H r [.int (m : Nat), x] ∧ m < 2 ^ 64 ∧ m ≠ 0 ∧ Q (.int (LM.lowN m : Nat)) H
theorem sc_lowest_of : FnScope ["strip"] ["strip"] (defScope s_lowest_of) := ⟨rfl, rfl, rfl, by decide +kernel, rfl, by decide +kernel, by decide +kernel⟩
set_option maxHeartbeats 4000000 in
theorem ok_lowest_of (T : Tx K mg "lowest_of" s_lowest_of ["strip"]) (B : Bn mg) (d_lowest : Df P w K mg base 1 "lowest" ["cells"] (sp_lowest K)) : Df P w K mg base 2 "lowest_of" ["strip"] (sp_lowest_of K) := by
  refine T.df sc_lowest_of (fun vs H Q E h => ?_) (fun f cdv A outer s H vs Q E hr h => ?_)
  · obtain ⟨r, m, x, rfl, hr1, hm, h0, q⟩ := h
    rfl
  · obtain ⟨r, m, x, rfl, hr1, hm, h0, q⟩ := h
    refine ⟨_, (pss_one (ps_ret (pe_df d_lowest hr (pa_cons (pe_ix ix_tup (pv 0) pe_int (fun _ _ => rfl)) pa_nil)))), ?_⟩
    exact ⟨_, rfl, r, _, _, _, rfl, rfl, hr1, (atI_nat (j := 0) rfl), m, rfl, hm, fun z => absurd z h0, fun _ => q⟩
noncomputable def sp_column_at (K : PySem.W.Frag) : Sp := fun vs H Q _ => ∃ (a : Addr) (i : Nat) (R : Strp) (g : Nat → Option Col), vs = [.ref a, .int (i : Nat)] ∧ StrT K H a R ∧ IsStr g R ∧ i < 64 ∧ (g i = none → Q .non H) ∧ ∀ c b, g i = some c → ColV K H b c → Q (.ref b) H
theorem sc_column_at : FnScope ["strips", "cell", "strip"] ["strips", "cell"] (defScope s_column_at) := ⟨rfl, rfl, rfl, by decide +kernel, rfl, by decide +kernel, by decide +kernel⟩
set_option maxHeartbeats 4000000 in
theorem ok_column_at (T : Tx K mg "column_at" s_column_at ["strips", "cell"]) (B : Bn mg) (d_has : Df P w K mg base 1 "has" ["cells", "cell"] (sp_has K)) : Df P w K mg base 2 "column_at" ["strips", "cell"] (sp_column_at K) := by
  refine T.df sc_column_at (fun vs H Q E h => ?_) (fun f cdv A outer s H vs Q E hr h => ?_)
  · obtain ⟨a, i, R, g, rfl, hT, hG, hi, qN, q⟩ := h
    rfl
  · obtain ⟨a, i, R, g, rfl, hT, hG, hi, qN, q⟩ := h
    refine ⟨_, (pss_cons (ps_for PassesOwn.never rfl (pi_tup (pv 0)) (pg_name (i := 2) sc_column_at.nd rfl (by first | exact Or.inl rfl | exact Or.inr rfl)) (pss_one (ps_if (pt_val (pe_df d_has hr (pa_cons (pe_ix ix_tup (pv 2) pe_int (fun _ _ => rfl)) (pa_cons (pv 1) pa_nil)))) (pss_one (ps_ret (pe_ix ix_tup (pv 2) pe_int (fun _ _ => rfl)))) pss_nil)))
      (pss_one (ps_ret pe_non))), ?_⟩
    obtain ⟨vs, ha, pr⟩ := hT
    refine ⟨_, rfl, a, rfl, ⟨_, ha⟩, for_tup (K := K) (a := a) (xs := vs) (fun j σ H2 => ∃ o2 : Option V, σ = [some (.ref a), some (.int (i : Nat)), o2] ∧ H2 = H ∧ ∀ n p, n < j → R[n]? = some p → g i ≠ some p.2) ⟨none, rfl, rfl, fun _ _ z => absurd z (Nat.not_lt_zero _)⟩ (fun j σ H2 _ ⟨_, _, e, _⟩ => by rw [e]; exact ha) ?_ ?_⟩
    · rintro j y σ H2 hj ⟨o2, rfl, rfl, hn⟩
      obtain ⟨p, hp, r1, b, rfl, h1, h2⟩ := paired_at pr hj
      have eb := hG.at hi (List.mem_of_getElem? hp)
      refine ⟨_, rfl, r1, _, _, _, rfl, rfl, h1, (atI_nat (j := 0) rfl), _, rfl, p.1, (i : Nat), rfl, _, rfl, ?_⟩
      rw [decide_eq_true (show (0 : Int) ≤ (i : Int) by omega), Bool.true_and, Int.toNat_natCast, eb]
      refine ite2 (fun h3 => ?_) (fun h3 => ?_)
      · exact ⟨_, rfl, r1, _, _, _, rfl, rfl, h1, (atI_nat (j := 1) rfl), q p.2 b (of_decide_eq_true h3) h2⟩
      · refine ⟨_, rfl, rfl, fun n p' hn1 hn2 => ?_⟩
        rcases Nat.lt_or_ge n j with z | z
        · exact hn n p' z hn2
        · have e : n = j := by omega
          subst e
          rw [hp] at hn2
          cases hn2
          exact fun w => h3 (decide_eq_true w)
    · rintro σ H2 ⟨o2, rfl, rfl, hn⟩
      refine qN ?_
      cases e : g i with
      | none => rfl
      | some c =>
        obtain ⟨p, hp, ec⟩ := List.mem_map.mp (hG.all i c hi e)
        obtain ⟨n, hnl, rfl⟩ := List.getElem_of_mem hp
        have lv : vs.length = R.length := Paired.length pr
        exact absurd (by rw [e, ← ec]) (hn n _ (by omega) (by simp [hnl]))
noncomputable def sp_burdens_on (K : PySem.W.Frag) : Sp := fun vs H Q _ => ∃ (a : Addr) (R : Strp) (rs : List (List Key)), vs = [.ref a] ∧ StrT K H a R ∧ R.length ≤ 100 ∧ (∀ p ∈ R, ∀ r ∈ p.2, r ∈ rs) ∧ rs.length ≤ 59 ∧ (∀ r ∈ rs, IsBur r) ∧ (rs.map numR).Nodup ∧ ∀ (b : Addr) (T : Col) (H' : Hp), Same H H' → IsBs (R.map (·.2)) T → ColV K H' b T → Q (.ref b) H'
theorem sc_burdens_on : FnScope ["strips"] ["strips"] (defScope s_burdens_on) := ⟨rfl, rfl, rfl, by decide +kernel, rfl, by decide +kernel, by decide +kernel⟩
set_option maxHeartbeats 4000000 in
theorem ok_burdens_on (T : Tx K mg "burdens_on" s_burdens_on ["strips"]) (B : Bn mg) (d_burdens_in : Df P w K mg base 1 "burdens_in" ["columns"] (sp_burdens_in K)) : Df P w K mg base 2 "burdens_on" ["strips"] (sp_burdens_on K) := by
  refine T.df sc_burdens_on (fun vs H Q E h => ?_) (fun f cdv A outer s H vs Q E hr h => ?_)
  · obtain ⟨a, R, rs, rfl, hT, hz, hsub, hrs, hib, nd, q⟩ := h
    rfl
  · obtain ⟨a, R, rs, rfl, hT, hz, hsub, hrs, hib, nd, q⟩ := h
    refine ⟨_, (pss_one (ps_ret (pe_df d_burdens_in hr (pa_cons (pe_lcomp ["strip"] [] (clOf _ []) rfl (by rfl) rfl (by decide +kernel) (by decide +kernel) (clOf_cells (by rfl)) (kin_of (by rfl)) (fun p hp => by cases hp) (fun p hp => by cases hp) (wk_name (by decide)) (pi_tup (pv 0)) (fun _ _ _ _ => pg_name (i := 0) (show (["strip"] : List Str).Nodup by decide +kernel) rfl (Or.inl rfl) (Or.inr rfl)) (fun _ _ _ _ => pifs_nil) (fun _ _ _ _ => (pe_ix (ix_tupK (K := K) rfl) (pv 0) pe_int (fun _ _ => rfl)))) pa_nil)))), ?_⟩
    obtain ⟨vs, ha, pr⟩ := hT
    have lv : vs.length = R.length := Paired.length pr
    refine ⟨_, rfl, a, rfl, ⟨_, ha⟩, fun A1 hA1 => ?_⟩
    refine compT (K := K) (a := a) (xs := vs) (fun i acc H2 => H2 = upd H A1 (.lst acc) ∧ Paired (ColE K H) acc ((R.take i).map (·.2))) ⟨rfl, .nil⟩ (fun i acc H2 _ ⟨e, _⟩ => by rw [e]; exact (Same.upd hA1).tup ha) ?_ ?_
    · rintro i y acc H2 hi ⟨rfl, pc⟩
      obtain ⟨p, hp, r1, b, rfl, h1, hb⟩ := paired_at pr hi
      refine ⟨_, rfl, r1, _, _, _, rfl, rfl, (Same.upd hA1).tup h1, (atI_nat (j := 1) rfl), upd_same, small1000 ?_, by rw [upd_upd], ?_⟩
      · rw [Paired.length pc, List.length_map, List.length_take]; omega
      · rw [List.take_add_one, hp, Option.toList_some, List.map_append]
        exact Paired.app pc (.cons ⟨b, rfl, hb⟩ .nil)
    · rintro acc H2 ⟨rfl, pc⟩
      rw [lv, List.take_length] at pc
      have s1 := Same.upd (o := .lst acc) hA1
      refine ⟨A1, acc, _, rs, rfl, SqL.of upd_same, Paired.imp (fun _ _ z => ColE.tk s1.tk z) pc, fun c hc r hr => ?_, hrs, hib, nd, fun b T H' s' hB hT' => q b T H' (s1.trans s') hB hT'⟩
      obtain ⟨p, hp, rfl⟩ := List.mem_map.mp hc
      exact hsub p hp r hr
noncomputable def sp_laid_in (K : PySem.W.Frag) : Sp := fun vs H Q _ => ∃ (a : Addr) (tv : V) (tl : Option (List Int)) (rb : V) (bb : List Key) (c : Col), vs = [.ref a, rb, tv] ∧ BurE K H rb bb ∧ ColV K H a c ∧ GoodD c ∧ TolV K H tv tl ∧ ∀ b H', Same H H' → ColV K H' b (layC tl bb c) → Q (.ref b) H'
theorem sc_laid_in : FnScope ["column", "burden", "told", "place"] ["column", "burden", "told"] (defScope s_laid_in) := ⟨rfl, rfl, rfl, by decide +kernel, rfl, by decide +kernel, by decide +kernel⟩
set_option maxHeartbeats 4000000 in
theorem ok_laid_in (T : Tx K mg "laid_in" s_laid_in ["column", "burden", "told"]) (B : Bn mg) (d_place_behind : Df P w K mg base 1 "place_behind" ["column", "told"] (sp_place_behind K)) : Df P w K mg base 2 "laid_in" ["column", "burden", "told"] (sp_laid_in K) := by
  refine T.df sc_laid_in (fun vs H Q E h => ?_) (fun f cdv A outer s H vs Q E hr h => ?_)
  · obtain ⟨a, tv, tl, rb, bb, c, rfl, hbb, hc, ⟨hb, nd, hl⟩, hT, q⟩ := h
    rfl
  · obtain ⟨a, tv, tl, rb, bb, c, rfl, hbb, hc, ⟨hb, nd, hl⟩, hT, q⟩ := h
    refine ⟨_, (pss_cons (ps_set (i := 3) sc_laid_in.nd rfl (by first | exact Or.inl rfl | exact Or.inr rfl) (pe_df d_place_behind hr (pa_cons (pv 0) (pa_cons (pv 2) pa_nil))))
      (pss_one (ps_ret (pe_op op_catA (pe_op op_catA (pe_slice sl_tupA (pv 0) po_none (po_some (pv 3))) (pe_tup (pa_cons (pv 1) pa_nil))) (pe_slice sl_tupA (pv 0) (po_some (pv 3)) po_none))))), ?_⟩
    obtain ⟨xs, hx, pr⟩ := hc.bur
    have lx : xs.length = c.length := Paired.length pr
    have hle := bhO_le tl c
    refine ⟨_, rfl, _, rfl, a, tv, tl, c, rfl, hc, hb, hT, fun H1 s1 => ?_⟩
    refine ⟨_, rfl, _, rfl, _, rfl, a, xs, rfl, s1.tup hx, fun r1 H2 s2 h2 => ?_⟩
    rw [cut_hi (by omega)] at h2
    refine ⟨_, rfl, len_ok rfl, fun r3 hr3 => ?_⟩
    have s3 := Same.upd (o := .tup [rb]) hr3
    refine ⟨r1, r3, _, _, rfl, rfl, s3.tup h2, SqT.of upd_same, Nat.le_of_lt (small1000 (by rw [List.length_take]; show _ + 1 ≤ 1000; omega)), fun r4 H4 s4 h4 => ?_⟩
    have s14 := s1.trans (s2.trans (s3.trans s4))
    refine ⟨_, rfl, _, rfl, _, rfl, a, xs, rfl, s14.tup hx, fun r5 H5 s5 h5 => ?_⟩
    rw [cut_lo (by omega)] at h5
    refine ⟨r4, r5, _, _, rfl, rfl, s5.tup h4, h5, Nat.le_of_lt (small1000 (by rw [List.length_append, List.length_take, List.length_drop]; show _ + 1 + _ ≤ 1000; omega)), fun r6 H6 s6 h6 => ?_⟩
    have sA := s14.trans (s5.trans s6)
    refine q r6 H6 sA ?_
    have prA := Paired.imp (fun _ _ z => BurE.tk sA.tk z) pr
    exact ColV.of h6 (Paired.app (Paired.app (paired_take _ prA).1 (.cons (hbb.tk sA.tk) .nil)) (paired_take _ prA).2)
noncomputable def sp_filled_in (K : PySem.W.Frag) : Sp := fun vs H Q _ => ∃ (a : Addr) (n : Int) (rb : V) (bb : List Key) (c : Col), vs = [.ref a, .int n, rb] ∧ BurE K H rb bb ∧ ColV K H a c ∧ GoodD c ∧ ∀ b H', Same H H' → ColV K H' b (filC n bb c) → Q (.ref b) H'
theorem sc_filled_in : FnScope ["column", "note", "burden", "place"] ["column", "note", "burden"] (defScope s_filled_in) := ⟨rfl, rfl, rfl, by decide +kernel, rfl, by decide +kernel, by decide +kernel⟩
set_option maxHeartbeats 4000000 in
theorem ok_filled_in (T : Tx K mg "filled_in" s_filled_in ["column", "note", "burden"]) (B : Bn mg) (d_place_of : Df P w K mg base 1 "place_of" ["column", "number"] (sp_place_of K)) : Df P w K mg base 2 "filled_in" ["column", "note", "burden"] (sp_filled_in K) := by
  refine T.df sc_filled_in (fun vs H Q E h => ?_) (fun f cdv A outer s H vs Q E hr h => ?_)
  · obtain ⟨a, n, rb, bb, c, rfl, hbb, hc, ⟨hb, nd, hl⟩, q⟩ := h
    rfl
  · obtain ⟨a, n, rb, bb, c, rfl, hbb, hc, ⟨hb, nd, hl⟩, q⟩ := h
    refine ⟨_, (pss_cons (ps_set (i := 3) sc_filled_in.nd rfl (by first | exact Or.inl rfl | exact Or.inr rfl) (pe_df d_place_of hr (pa_cons (pv 0) (pa_cons (pv 1) pa_nil))))
      (pss_cons (ps_if (pt_cmpR op_isN (pv 3) pe_non (nomark _)) (pss_one (ps_ret (pe_op op_catA (pv 0) (pe_tup (pa_cons (pv 2) pa_nil))))) pss_nil)
      (pss_one (ps_ret (pe_op op_catA (pe_op op_catA (pe_slice sl_tupA (pv 0) po_none (po_some (pv 3))) (pe_tup (pa_cons (pv 2) pa_nil))) (pe_slice sl_tupA (pv 0) (po_some (pe_op op_add (pv 3) pe_int)) po_none)))))), ?_⟩
    obtain ⟨xs, hx, pr⟩ := hc.bur
    have lx : xs.length = c.length := Paired.length pr
    refine ⟨_, rfl, _, rfl, a, n, c, rfl, hc, hb, fun H1 s1 => ⟨fun i hi => ?_, fun hn => ?_⟩⟩
    · obtain ⟨r, hr, _, _⟩ := id hi
      have il : i < c.length := (List.getElem?_eq_some_iff.mp hr).1
      refine ⟨_, rfl, rfl, _, rfl, iteF ?_⟩
      refine ⟨_, rfl, _, rfl, _, rfl, a, xs, rfl, s1.tup hx, fun r1 H2 s2 h2 => ?_⟩
      rw [cut_hi (by omega)] at h2
      refine ⟨_, rfl, len_ok rfl, fun r3 hr3 => ?_⟩
      have s3 := Same.upd (o := .tup [rb]) hr3
      refine ⟨r1, r3, _, _, rfl, rfl, s3.tup h2, SqT.of upd_same, Nat.le_of_lt (small1000 (by rw [List.length_take]; show _ + 1 ≤ 1000; omega)), fun r4 H4 s4 h4 => ?_⟩
      have s14 := s1.trans (s2.trans (s3.trans s4))
      refine ⟨_, rfl, _, rfl, _, _, rfl, rfl, _, rfl, a, xs, rfl, s14.tup hx, fun r5 H5 s5 h5 => ?_⟩
      rw [show cutV xs (some ((i : Int) + 1)) none = xs.drop (i + 1) from cut_lo (n := i + 1) (by omega)] at h5
      refine ⟨r4, r5, _, _, rfl, rfl, s5.tup h4, h5, Nat.le_of_lt (small1000 (by rw [List.length_append, List.length_take, List.length_drop]; show _ + 1 + _ ≤ 1000; omega)), fun r6 H6 s6 h6 => ?_⟩
      have sA := s14.trans (s5.trans s6)
      refine q r6 H6 sA ?_
      rw [filC_at nd hi]
      have prA := Paired.imp (fun _ _ z => BurE.tk sA.tk z) pr
      exact ColV.of h6 (Paired.app (Paired.app (paired_take i prA).1 (.cons (hbb.tk sA.tk) .nil)) (paired_take (i + 1) prA).2)
    · refine ⟨_, rfl, rfl, _, rfl, iteT ?_⟩
      refine ⟨_, rfl, _, rfl, len_ok rfl, fun r3 hr3 => ?_⟩
      have s3 := Same.upd (o := .tup [rb]) hr3
      refine ⟨a, r3, _, _, rfl, rfl, (s1.trans s3).tup hx, SqT.of upd_same, Nat.le_of_lt (small1000 (by show _ + 1 ≤ 1000; omega)), fun r4 H4 s4 h4 => ?_⟩
      have sA := s1.trans (s3.trans s4)
      refine q r4 H4 sA ?_
      rw [filC_none hn]
      exact ColV.of h4 (Paired.app (Paired.imp (fun _ _ z => BurE.tk sA.tk z) pr) (.cons (hbb.tk sA.tk) .nil))
noncomputable def sp_passed_in (K : PySem.W.Frag) : Sp := fun vs H Q _ => ∃ (a : Addr) (n h : Int) (c : Col), vs = [.ref a, .int n, .int h] ∧ ColV K H a c ∧ (∀ r ∈ c, IsBur r) ∧ ∀ b H', Same H H' → ColV K H' b (pasC n h c) → Q (.ref b) H'
theorem sc_passed_in : FnScope ["column", "number", "ahead", "first", "moved"] ["column", "number", "ahead"] (defScope s_passed_in) := ⟨rfl, rfl, rfl, by decide +kernel, rfl, by decide +kernel, by decide +kernel⟩
set_option maxHeartbeats 4000000 in
theorem ok_passed_in (T : Tx K mg "passed_in" s_passed_in ["column", "number", "ahead"]) (B : Bn mg) (d_place_of : Df P w K mg base 1 "place_of" ["column", "number"] (sp_place_of K)) : Df P w K mg base 2 "passed_in" ["column", "number", "ahead"] (sp_passed_in K) := by
  refine T.df sc_passed_in (fun vs H Q E h => ?_) (fun f cdv A outer s H vs Q E hr h => ?_)
  · obtain ⟨a, n, h, c, rfl, hc, hb, q⟩ := h
    rfl
  · obtain ⟨a, n, h, c, rfl, hc, hb, q⟩ := h
    refine ⟨_, (pss_cons (ps_set (i := 3) sc_passed_in.nd rfl (by first | exact Or.inl rfl | exact Or.inr rfl) (pe_df d_place_of hr (pa_cons (pv 0) (pa_cons (pv 1) pa_nil))))
      (pss_cons (ps_set (i := 4) sc_passed_in.nd rfl (by first | exact Or.inl rfl | exact Or.inr rfl) (pe_df d_place_of hr (pa_cons (pv 0) (pa_cons (pv 2) pa_nil))))
      (pss_cons (ps_if ((pw_or (pt_cmpR op_isN (pv 3) pe_non (nomark _)) (pw_or1 (pt_cmpR op_isN (pv 4) pe_non (nomark _)))).pt) (pss_one (ps_ret (pe_tup pa_nil))) pss_nil)
      (pss_one (ps_ret (pe_slice sl_tupA (pv 0) (po_some (pv 3)) (po_some (pv 4)))))))), ?_⟩
    obtain ⟨xs, hx, pr⟩ := hc.bur
    have lx : xs.length = c.length := Paired.length pr
    refine ⟨_, rfl, _, rfl, a, n, c, rfl, hc, hb, fun H1 s1 => ⟨fun i hi => ?_, fun hn => ?_⟩⟩
    · refine ⟨_, rfl, _, rfl, a, h, c, rfl, hc.tk s1.tk, hb, fun H2 s2 => ⟨fun j hj => ?_, fun hn => ?_⟩⟩
      · have il := hi.lt
        have jl := hj.lt
        refine ⟨_, rfl, rfl, _, rfl, iteF ⟨_, rfl, rfl, _, rfl, iteF ?_⟩⟩
        refine ⟨_, rfl, _, rfl, _, rfl, _, rfl, _, rfl, a, xs, rfl, (s1.trans s2).tup hx, fun r H3 s3 h3 => ?_⟩
        have sA := s1.trans (s2.trans s3)
        have ec : cutV xs (some (i : Int)) (some (j : Int)) = (xs.drop i).take (j - i) := by
          unfold cutV
          rw [HT.sIx_nat, HT.sIx_nat, Nat.min_eq_left (by omega), Nat.min_eq_left (by omega)]
        rw [ec] at h3
        refine q r H3 sA ?_
        rw [pas_at hi hj]
        exact ColV.of h3 (paired_take _ (paired_take _ (Paired.imp (fun _ _ z => BurE.tk sA.tk z) pr)).2).1
      · refine ⟨_, rfl, rfl, _, rfl, iteF ⟨_, rfl, rfl, _, rfl, iteT ?_⟩⟩
        refine ⟨len_ok rfl, fun r hr => q r _ (s1.trans (s2.trans (Same.upd hr))) ?_⟩
        rw [pas_no2 hn]
        exact ColV.of (SqT.of upd_same) .nil
    · refine ⟨_, rfl, _, rfl, a, h, c, rfl, hc.tk s1.tk, hb, fun H2 s2 => ⟨fun j hj => ?_, fun hn2 => ?_⟩⟩
      · refine ⟨_, rfl, rfl, _, rfl, iteT ?_⟩
        refine ⟨len_ok rfl, fun r hr => q r _ (s1.trans (s2.trans (Same.upd hr))) ?_⟩
        rw [pas_no1 hn]
        exact ColV.of (SqT.of upd_same) .nil
      · refine ⟨_, rfl, rfl, _, rfl, iteT ?_⟩
        refine ⟨len_ok rfl, fun r hr => q r _ (s1.trans (s2.trans (Same.upd hr))) ?_⟩
        rw [pas_no1 hn]
        exact ColV.of (SqT.of upd_same) .nil
noncomputable def sp_law_pool (K : PySem.W.Frag) : Sp := fun vs H Q _ => ∃ (c : Int) (n : Nat), vs = [.int c, .int (n : Nat)] ∧ n ≤ 59 ∧ ∀ (l : Addr) (vs' : List V) (rs : List (List Key)) (H' : Hp), Same H H' → H' l = some (.lst vs') → Paired (BurE K H') vs' rs → rs.length = n → (∀ r ∈ rs, IsBur r) → (rs.map numR).Nodup → Q (.ref l) H'
theorem sc_law_pool : FnScope ["_law_cell", "_law_many", "_law_found", "_law_xs", "_law_wide", "_law_k", "_law_number_here", "_law_kind", "_law_amount", "_law_until"] ["_law_cell", "_law_many"] (defScope s_law_pool) := ⟨rfl, rfl, rfl, by decide +kernel, rfl, by decide +kernel, by decide +kernel⟩
set_option maxHeartbeats 4000000 in
theorem ok_law_pool (T : Tx K mg "_law_pool" s_law_pool ["_law_cell", "_law_many"]) (B : Bn mg) (d_law_stream : Df P w K mg base 1 "_law_stream" ["_law_cell", "_law_many"] (sp_law_stream K)) (d_law_name : Df P w K mg base 1 "_law_name" ["_law_number_here"] (sp_law_name K)) : Df P w K mg base 2 "_law_pool" ["_law_cell", "_law_many"] (sp_law_pool K) := by
  refine T.df sc_law_pool (fun vs H Q E h => ?_) (fun f cdv A outer s H vs Q E hr h => ?_)
  · obtain ⟨c, n, rfl, hn, q⟩ := h
    rfl
  · obtain ⟨c, n, rfl, hn, q⟩ := h
    refine ⟨_, (pss_cons (ps_set (i := 2) sc_law_pool.nd rfl (by first | exact Or.inl rfl | exact Or.inr rfl) (pe_lst pa_nil))
      (pss_cons (ps_set (i := 3) sc_law_pool.nd rfl (by first | exact Or.inl rfl | exact Or.inr rfl) (pe_df d_law_stream hr (pa_cons (pv 0) (pa_cons (pe_op op_add (pe_op op_mul pe_int (pv 1)) pe_int) pa_nil))))
      (pss_cons (ps_set (i := 4) sc_law_pool.nd rfl (by first | exact Or.inl rfl | exact Or.inr rfl) (pe_ix ix_list (pe_lst (pa_cons pe_int (pa_cons pe_int (pa_cons pe_int pa_nil)))) (pe_op op_mod (pe_ix ix_list (pv 3) pe_int (fun _ _ => rfl)) pe_int) (fun _ _ => rfl)))
      (pss_cons (ps_for PassesOwn.never rfl (pi_range1 (by rfl) B.range (pa_cons (pv 1) pa_nil)) (pg_name (i := 5) sc_law_pool.nd rfl (by first | exact Or.inl rfl | exact Or.inr rfl)) (pss_cons (ps_set (i := 6) sc_law_pool.nd rfl (by first | exact Or.inl rfl | exact Or.inr rfl) (pe_op op_add (pe_op op_add pe_int (pe_op op_mul pe_int (pe_op op_mod (pe_ix ix_list (pv 3) (pe_op op_add (pe_op op_mul pe_int (pv 5)) pe_int) (fun _ _ => rfl)) (pv 4)))) (pe_op op_mod (pe_op op_add (pe_op op_mul pe_int (pv 5)) (pe_ix ix_list (pv 3) pe_int (fun _ _ => rfl))) pe_int)))
      (pss_cons (ps_set (i := 7) sc_law_pool.nd rfl (by first | exact Or.inl rfl | exact Or.inr rfl) (pe_ix ix_list (pe_lst (pa_cons pe_str (pa_cons pe_str (pa_cons pe_str (pa_cons pe_str pa_nil))))) (pe_op op_mod (pe_ix ix_list (pv 3) (pe_op op_add (pe_op op_mul pe_int (pv 5)) pe_int) (fun _ _ => rfl)) pe_int) (fun _ _ => rfl)))
      (pss_cons (ps_set (i := 8) sc_law_pool.nd rfl (by first | exact Or.inl rfl | exact Or.inr rfl) (pe_op op_mod (pe_op op_mul (pe_ix ix_list (pv 3) (pe_op op_add (pe_op op_mul pe_int (pv 5)) pe_int) (fun _ _ => rfl)) pe_int) (pe_op op_add (pe_op op_pow pe_int pe_int) pe_int)))
      (pss_cons (ps_set (i := 9) sc_law_pool.nd rfl (by first | exact Or.inl rfl | exact Or.inr rfl) (pe_ix ix_list (pe_lst (pa_cons pe_int (pa_cons (pe_op op_mod (pe_ix ix_list (pv 3) (pe_op op_add (pe_op op_mul pe_int (pv 5)) pe_int) (fun _ _ => rfl)) (pe_op op_add (pe_op op_pow pe_int pe_int) pe_int)) pa_nil))) (pe_callTy call_int1 (by rfl) B.int boot_int (pa_cons (pe_or (pe_cmpR op_eq (pv 7) pe_str (nomark _)) (pe_one (pe_cmpR op_eq (pe_op op_mod (pe_ix ix_list (pv 3) pe_int (fun _ _ => rfl)) pe_int) pe_int (nomark _)))) pa_nil)) (fun _ _ => rfl)))
      (pss_one (ps_expr (pe_bm PySem.F.plainAttrs_list PySem.F.slot_list_append PySem.F.type_list_append mt_append (pv 2) (pa_cons (pe_tup (pa_cons (pv 6) (pa_cons (pv 7) (pa_cons (pe_df d_law_name hr (pa_cons (pe_op op_fdiv (pe_ix ix_list (pv 3) (pe_op op_add (pe_op op_mul pe_int (pv 5)) pe_int) (fun _ _ => rfl)) pe_int) pa_nil)) (pa_cons (pv 8) (pa_cons (pv 9) pa_nil)))))) pa_nil)))))))))
      (pss_one (ps_ret (pv 2))))))), ?_⟩
    refine ⟨len_ok rfl, fun l hl => ?_⟩
    refine ⟨_, rfl, _, rfl, _, _, rfl, rfl, .inl ⟨by decide, by decide⟩, _, _, rfl, rfl, c, 3 * n + 2, by rw [show ((3 * n + 2 : Nat) : Int) = 3 * (n : Int) + 2 by omega], by omega, fun lx xs hlx hx hb => ?_⟩
    have nlx : lx ≠ l := fun z => by rw [z, upd_same] at hlx; cases hlx
    have s1 : Same H (upd (upd H l (.lst [])) lx (.lst (xs.map V.int))) := (Same.upd hl).trans (Same.upd hlx)
    have h1 : (upd (upd H l (.lst [])) lx (.lst (xs.map V.int))) lx = some (.lst (xs.map V.int)) := upd_same
    have h2 : (upd (upd H l (.lst [])) lx (.lst (xs.map V.int))) l = some (.lst []) := by rw [upd_ne nlx.symm]; exact upd_same
    generalize (upd (upd H l (.lst [])) lx (.lst (xs.map V.int))) = H1 at s1 h1 h2 ⊢
    obtain ⟨x0, e0, x00, x01⟩ := at_nums (i := 0) (by decide) (by omega) hb
    obtain ⟨x1, e1, x10, x11⟩ := at_nums (i := 1) (by decide) (by omega) hb
    obtain ⟨vw, mw, hw⟩ := at_any (xs := [V.int 15624999, V.int 3, V.int 1]) (i := x0 % 3) (Int.emod_nonneg _ (by decide)) (Int.emod_lt_of_pos _ (by decide))
    obtain ⟨wd, rfl, w0⟩ : ∃ wd, vw = .int wd ∧ 0 < wd := by
      simp only [List.mem_cons, List.not_mem_nil, or_false] at mw
      rcases mw with rfl | rfl | rfl
      · exact ⟨_, rfl, by decide⟩
      · exact ⟨_, rfl, by decide⟩
      · exact ⟨_, rfl, by decide⟩
    refine ⟨len_ok rfl, fun l2 hl2 => ?_⟩
    have s2 := Same.upd (o := .lst [V.int 15624999, V.int 3, V.int 1]) hl2
    refine ⟨_, rfl, lx, _, _, _, rfl, rfl, SqL.of (s2 _ _ h1), e0, _, _, rfl, rfl, (by show (0 : Int) < _; decide), l2, _, _, _, rfl, rfl, SqL.of upd_same, hw, ?_⟩
    replace h1 := s2 _ _ h1
    replace h2 := s2 _ _ h2
    have s3 := s1.trans s2
    generalize (upd H1 l2 (.lst [V.int 15624999, V.int 3, V.int 1])) = H3 at s3 h1 h2 ⊢
    refine ⟨_, rfl, n, rfl, by omega, by omega, for_range (lo := 0) (fun i σ H2 => ∃ (o5 o6 o7 o8 o9 : Option V) (vs : List V) (rs : List (List Key)), σ = [some (.int c), some (.int (n : Nat)), some (.ref l), some (.ref lx), some (.int wd), o5, o6, o7, o8, o9] ∧ Same H H2 ∧ H2 l = some (.lst vs) ∧ H2 lx = some (.lst (xs.map V.int)) ∧ Paired (BurE K H2) vs rs ∧ rs.length = i ∧ (∀ r ∈ rs, IsBur r) ∧ rs.map (fun r => (numR r - 1) % 64) = (List.range i).map fun j : Nat => (37 * (0 + (j : Int)) + x1) % 64) ⟨none, none, none, none, none, [], [], rfl, s3, h2, h1, .nil, rfl, (fun _ z => nomatch z), rfl⟩ ?_ ?_⟩
    · rintro i σ H2 hi ⟨o5, o6, o7, o8, o9, vs, rs, rfl, s4, g2, g1, pr, hrs, hib, hnm⟩
      obtain ⟨xa, ea, xa0, xa1⟩ := at_nums (i := 3 * (0 + (i : Int)) + 2) (by omega) (by omega) hb
      obtain ⟨xb, eb, xb0, xb1⟩ := at_nums (i := 3 * (0 + (i : Int)) + 3) (by omega) (by omega) hb
      obtain ⟨xc, ec, xc0, xc1⟩ := at_nums (i := 3 * (0 + (i : Int)) + 4) (by omega) (by omega) hb
      refine ⟨_, rfl, _, rfl, _, _, rfl, rfl, .inl ⟨by decide, by decide⟩, _, _, rfl, rfl, lx, _, _, _, rfl, rfl, SqL.of g1, ea, _, rfl, _, _, rfl, rfl, w0, _, _, rfl, rfl, .inl ⟨by decide, by decide⟩, _, _, rfl, rfl, _, rfl, _, _, rfl, rfl, .inl ⟨by decide, by decide⟩, _, rfl, lx, _, _, _, rfl, rfl, SqL.of g1, e1, _, _, rfl, rfl, _, _, rfl, rfl, (by show (0 : Int) < _; decide), _, _, rfl, rfl, ?_⟩
      obtain ⟨vk, mk, hk⟩ := at_any (xs := [V.str (Str.ofString "debt"), V.str (Str.ofString "way"), V.str (Str.ofString "buy"), V.str (Str.ofString "note")]) (i := xb % 4) (Int.emod_nonneg _ (by decide)) (Int.emod_lt_of_pos _ (by decide))
      obtain ⟨kd, rfl, k0⟩ : ∃ kd, vk = .str kd ∧ PyData.canLay0 (.str kd) = true := by
        simp only [List.mem_cons, List.not_mem_nil, or_false] at mk
        rcases mk with rfl | rfl | rfl | rfl
        · exact ⟨_, rfl, by decide +kernel⟩
        · exact ⟨_, rfl, by decide +kernel⟩
        · exact ⟨_, rfl, by decide +kernel⟩
        · exact ⟨_, rfl, by decide +kernel⟩
      refine ⟨len_ok rfl, fun l4 hl4 => ?_⟩
      have s5 := Same.upd (o := .lst [V.str (Str.ofString "debt"), V.str (Str.ofString "way"), V.str (Str.ofString "buy"), V.str (Str.ofString "note")]) hl4
      refine ⟨_, rfl, _, rfl, _, _, rfl, rfl, .inl ⟨by decide, by decide⟩, _, _, rfl, rfl, lx, _, _, _, rfl, rfl, SqL.of (s5 _ _ g1), eb, _, _, rfl, rfl, (by show (0 : Int) < _; decide), l4, _, _, _, rfl, rfl, SqL.of upd_same, hk, ?_⟩
      replace g1 := s5 _ _ g1
      replace g2 := s5 _ _ g2
      replace pr := Paired.imp (fun _ _ z => BurE.tk s5.tk z) pr
      replace s4 := s4.trans s5
      generalize (upd H2 l4 (.lst [V.str (Str.ofString "debt"), V.str (Str.ofString "way"), V.str (Str.ofString "buy"), V.str (Str.ofString "note")])) = H5 at s4 g1 g2 pr ⊢
      refine ⟨_, rfl, _, rfl, _, _, rfl, rfl, .inl ⟨by decide, by decide⟩, _, _, rfl, rfl, lx, _, _, _, rfl, rfl, SqL.of g1, ec, _, _, rfl, rfl, .inr ⟨by decide, by decide⟩, _, _, rfl, rfl, ⟨by decide, by decide, by decide⟩, _, _, rfl, rfl, _, _, rfl, rfl, (by show (0 : Int) < _; decide), ?_⟩
      refine ⟨_, rfl, _, rfl, _, _, rfl, rfl, .inl ⟨by decide, by decide⟩, _, _, rfl, rfl, lx, _, _, _, rfl, rfl, SqL.of g1, ec, _, _, rfl, rfl, ⟨by decide, by decide, by decide⟩, _, _, rfl, rfl, _, _, rfl, rfl, (by show (0 : Int) < _; decide), len_ok rfl, fun l6 hl6 => ?_⟩
      have s6 := Same.upd (o := .lst [V.int 0, V.int (xc % (10 ^ Int.toNat 9 + 1))]) hl6
      replace g1 := s6 _ _ g1
      replace g2 := s6 _ _ g2
      replace pr := Paired.imp (fun _ _ z => BurE.tk s6.tk z) pr
      replace s4 := s4.trans s6
      have h6 : (upd H5 l6 (.lst [V.int 0, V.int (xc % (10 ^ Int.toNat 9 + 1))])) l6 = some (.lst [V.int 0, V.int (xc % (10 ^ Int.toNat 9 + 1))]) := upd_same
      generalize (upd H5 l6 (.lst [V.int 0, V.int (xc % (10 ^ Int.toNat 9 + 1))])) = H6 at s4 g1 g2 pr h6 ⊢
      refine ⟨_, rfl, rfl, _, rfl, ?_⟩
      refine ite2 (fun h7 => .inr ⟨_, rfl, ?_⟩) (fun h7 => ⟨_, rfl, lx, _, _, _, rfl, rfl, SqL.of g1, e0, _, _, rfl, rfl, (by show (0 : Int) < _; decide), rfl, .inr ⟨_, rfl, ?_⟩⟩)
      · refine ⟨l6, _, _, _, rfl, rfl, SqL.of h6, at_bitI true _ _, ?_⟩
        refine ⟨_, rfl, .inl ⟨rfl, _, SqL.of g2⟩, _, rfl, _, rfl, _, rfl, _, rfl, _, _, rfl, rfl, .inl ⟨by decide, by decide⟩, _, _, rfl, rfl, lx, _, _, _, rfl, rfl, SqL.of g1, eb, _, _, rfl, rfl, ⟨by decide, by decide⟩, _, rfl, Int.ediv_nonneg xb0 (by decide), fun x hx => ⟨_, rfl, _, rfl, len_ok rfl, fun r hr => ?_⟩⟩
        have s8 := Same.upd (o := .tup (List.map kV [.inl (1 + 64 * (xa % wd) + (37 * (0 + (i : Int)) + x1) % 64), .inr kd, .inr x, .inl (xc * 467 % (10 ^ Int.toNat 12 + 1)), .inl (bitI true 0 (xc % (10 ^ Int.toNat 9 + 1)))])) hr
        have tk := TK.lst (o := .lst (vs ++ [.ref r])) (s8 _ _ g2)
        refine ⟨l, _, _, rfl, rfl, s8 _ _ g2, small1000 (by rw [Paired.length pr]; omega), _, _, _, _, _, vs ++ [.ref r], rs ++ [_], rfl, ?_, upd_same, ?_, Paired.app (Paired.imp (fun _ _ z => BurE.tk tk (BurE.tk s8.tk z)) pr) (.cons (BurE.tk tk ⟨?_, r, rfl, SqT.of upd_same⟩) .nil), by rw [List.length_append, hrs]; rfl, fun r' hr' => ?_, ?_⟩
        · intro b5 o5 e5
          rw [upd_ne (fun z => by rw [z, hl] at e5; cases e5)]
          exact s8 _ _ (s4 _ _ e5)
        · rw [upd_ne nlx]
          exact s8 _ _ g1
        · intro k hk
          simp only [List.mem_cons, List.not_mem_nil, or_false] at hk
          rcases hk with rfl | rfl | rfl | rfl | rfl
          · rfl
          · exact k0
          · exact hx.1.lay
          · rfl
          · rfl
        · rcases List.mem_append.mp hr' with z | z
          · exact hib r' z
          · rw [List.mem_singleton.mp z]; exact ⟨_, _, _, _, _, rfl⟩
        · rw [List.map_append, hnm, List.range_succ, List.map_append]
          congr 1
          show [((1 + 64 * (xa % wd) + (37 * (0 + (i : Int)) + x1) % 64) - 1) % 64] = [(37 * (0 + (i : Int)) + x1) % 64]
          congr 1
          omega
      · refine ⟨l6, _, _, _, rfl, rfl, SqL.of h6, at_bitI (decide (V.int (x0 % 2) = V.int 1)) _ _, ?_⟩
        refine ⟨_, rfl, .inl ⟨rfl, _, SqL.of g2⟩, _, rfl, _, rfl, _, rfl, _, rfl, _, _, rfl, rfl, .inl ⟨by decide, by decide⟩, _, _, rfl, rfl, lx, _, _, _, rfl, rfl, SqL.of g1, eb, _, _, rfl, rfl, ⟨by decide, by decide⟩, _, rfl, Int.ediv_nonneg xb0 (by decide), fun x hx => ⟨_, rfl, _, rfl, len_ok rfl, fun r hr => ?_⟩⟩
        have s8 := Same.upd (o := .tup (List.map kV [.inl (1 + 64 * (xa % wd) + (37 * (0 + (i : Int)) + x1) % 64), .inr kd, .inr x, .inl (xc * 467 % (10 ^ Int.toNat 12 + 1)), .inl (bitI (decide (V.int (x0 % 2) = V.int 1)) 0 (xc % (10 ^ Int.toNat 9 + 1)))])) hr
        have tk := TK.lst (o := .lst (vs ++ [.ref r])) (s8 _ _ g2)
        refine ⟨l, _, _, rfl, rfl, s8 _ _ g2, small1000 (by rw [Paired.length pr]; omega), _, _, _, _, _, vs ++ [.ref r], rs ++ [_], rfl, ?_, upd_same, ?_, Paired.app (Paired.imp (fun _ _ z => BurE.tk tk (BurE.tk s8.tk z)) pr) (.cons (BurE.tk tk ⟨?_, r, rfl, SqT.of upd_same⟩) .nil), by rw [List.length_append, hrs]; rfl, fun r' hr' => ?_, ?_⟩
        · intro b5 o5 e5
          rw [upd_ne (fun z => by rw [z, hl] at e5; cases e5)]
          exact s8 _ _ (s4 _ _ e5)
        · rw [upd_ne nlx]
          exact s8 _ _ g1
        · intro k hk
          simp only [List.mem_cons, List.not_mem_nil, or_false] at hk
          rcases hk with rfl | rfl | rfl | rfl | rfl
          · rfl
          · exact k0
          · exact hx.1.lay
          · rfl
          · rfl
        · rcases List.mem_append.mp hr' with z | z
          · exact hib r' z
          · rw [List.mem_singleton.mp z]; exact ⟨_, _, _, _, _, rfl⟩
        · rw [List.map_append, hnm, List.range_succ, List.map_append]
          congr 1
          show [((1 + 64 * (xa % wd) + (37 * (0 + (i : Int)) + x1) % 64) - 1) % 64] = [(37 * (0 + (i : Int)) + x1) % 64]
          congr 1
          omega
    · rintro σ H2 ⟨o5, o6, o7, o8, o9, vs, rs, rfl, s4, g2, g1, pr, hrs, hib, hnm⟩
      exact ⟨_, rfl, q l vs rs H2 s4 g2 pr hrs hib (nums_nd59 hn hnm)⟩
noncomputable def sp_law_mask (K : PySem.W.Frag) : Sp := fun vs H Q _ => ∃ (c : Int) (a : Addr) (ks : List Nat), vs = [.int c, .ref a] ∧ SqL K H a (NV ks) ∧ (∀ k ∈ ks, k < 64) ∧ ∀ (m : Nat) (H' : Hp), m < 2 ^ 64 → Same H H' → Q (.int (m : Nat)) H'
theorem sc_law_mask : FnScope ["_law_cell", "_law_spots_here", "_law_xs"] ["_law_cell", "_law_spots_here"] (defScope s_law_mask) := ⟨rfl, rfl, rfl, by decide +kernel, rfl, by decide +kernel, by decide +kernel⟩
set_option maxHeartbeats 4000000 in
theorem ok_law_mask (T : Tx K mg "_law_mask" s_law_mask ["_law_cell", "_law_spots_here"]) (B : Bn mg) (d_law_stream : Df P w K mg base 1 "_law_stream" ["_law_cell", "_law_many"] (sp_law_stream K)) : Df P w K mg base 2 "_law_mask" ["_law_cell", "_law_spots_here"] (sp_law_mask K) := by
  refine T.df sc_law_mask (fun vs H Q E h => ?_) (fun f cdv A outer s H vs Q E hr h => ?_)
  · obtain ⟨c, a, ks, rfl, ha, hk, q⟩ := h
    rfl
  · obtain ⟨c, a, ks, rfl, ha, hk, q⟩ := h
    refine ⟨_, (pss_cons (ps_set (i := 2) sc_law_mask.nd rfl (by first | exact Or.inl rfl | exact Or.inr rfl) (pe_df d_law_stream hr (pa_cons (pe_op op_fdiv (pv 0) pe_int) (pa_cons pe_int pa_nil))))
      (pss_cons (ps_if (pt_cmpR op_eq (pe_op op_mod (pv 0) pe_int) pe_int (nomark _)) (pss_one (ps_ret (pe_ix ix_list (pe_lst (pa_cons pe_int (pa_cons (pe_op op_sub (pe_op op_pow pe_int pe_int) pe_int) pa_nil))) (pe_op op_mod (pe_ix ix_list (pv 2) pe_int (fun _ _ => rfl)) pe_int) (fun _ _ => rfl)))) pss_nil)
      (pss_cons (ps_if ((pw_and (pt_cmpR op_eq (pe_op op_mod (pv 0) pe_int) pe_int (nomark _)) (pw_and1 (pt_cmpR op_gt (pe_callB call_len_seq (by rfl) B.len PySem.boot_len (pa_cons (pv 1) pa_nil)) pe_int (nomark _)))).pt) (pss_one (ps_ret (pe_op op_shl pe_int (pe_ix ix_list (pv 1) (pe_op op_mod (pe_ix ix_list (pv 2) pe_int (fun _ _ => rfl)) (pe_callB call_len_seq (by rfl) B.len PySem.boot_len (pa_cons (pv 1) pa_nil))) (fun _ _ => rfl))))) pss_nil)
      (pss_one (ps_ret (pe_op op_mod (pe_op op_add (pe_op op_mul (pe_op op_add (pe_op op_mul (pe_ix ix_list (pv 2) pe_int (fun _ _ => rfl)) pe_int) (pe_ix ix_list (pv 2) pe_int (fun _ _ => rfl))) pe_int) (pe_ix ix_list (pv 2) pe_int (fun _ _ => rfl))) (pe_op op_pow pe_int pe_int))))))), ?_⟩
    refine ⟨_, rfl, _, _, rfl, rfl, ⟨by decide, by decide⟩, _, 3, rfl, by decide, fun lx xs hlx hx hb => ?_⟩
    have s1 := Same.upd (o := .lst (xs.map V.int)) hlx
    have h1 : (upd H lx (.lst (xs.map V.int))) lx = some (.lst (xs.map V.int)) := upd_same
    generalize (upd H lx (.lst (xs.map V.int))) = H1 at s1 h1 ⊢
    obtain ⟨x0, e0, x00, x01⟩ := at_nums (i := 0) (by decide) (by omega) hb
    obtain ⟨x1, e1, x10, x11⟩ := at_nums (i := 1) (by decide) (by omega) hb
    obtain ⟨x2, e2, x20, x21⟩ := at_nums (i := 2) (by decide) (by omega) hb
    refine ⟨_, rfl, _, _, rfl, rfl, (by show (0 : Int) < _; decide), rfl, _, rfl, ?_⟩
    refine ite2 (fun h2 => ?_) (fun h2 => ?_)
    · obtain ⟨vm, mm, hm⟩ := at_any (xs := [V.int 0, V.int (2 ^ (64 : Int).toNat - 1)]) (i := x0 % 2) (Int.emod_nonneg _ (by decide)) (Int.emod_lt_of_pos _ (by decide))
      refine ⟨_, _, rfl, rfl, ⟨by decide, by decide, by decide⟩, _, _, rfl, rfl, len_ok rfl, fun l2 hl2 => ?_⟩
      have s2 := Same.upd (o := .lst [V.int 0, V.int (2 ^ (64 : Int).toNat - 1)]) hl2
      refine ⟨_, rfl, lx, _, _, _, rfl, rfl, SqL.of (s2 _ _ h1), e0, _, _, rfl, rfl, (by show (0 : Int) < _; decide), l2, _, _, _, rfl, rfl, SqL.of upd_same, hm, ?_⟩
      simp only [List.mem_cons, List.not_mem_nil, or_false] at mm
      rcases mm with rfl | rfl
      · exact q 0 _ (by decide) (s1.trans s2)
      · exact q (2 ^ 64 - 1) _ (by decide) (s1.trans s2)
    refine ⟨_, rfl, _, _, rfl, rfl, (by show (0 : Int) < _; decide), rfl, _, rfl, ?_⟩
    refine ite2 (fun h3 => ?_) (fun h3 => iteF ?_)
    · refine ⟨_, rfl, a, _, rfl, .inl (s1.seq ha), _, _, rfl, rfl, _, rfl, ?_⟩
      refine ite2 (fun h4 => ?_) (fun h4 => ?_)
      · have h4' : (0 : Int) < ((NV ks).length : Nat) := of_decide_eq_true h4
        obtain ⟨vk, mk, hv⟩ := at_any (xs := NV ks) (i := x0 % ((NV ks).length : Nat)) (Int.emod_nonneg _ (by omega)) (Int.emod_lt_of_pos _ h4')
        obtain ⟨k, hk1, rfl⟩ := List.mem_map.mp mk
        have kl := hk k hk1
        refine ⟨_, rfl, _, rfl, lx, _, _, _, rfl, rfl, SqL.of h1, e0, _, rfl, a, _, rfl, .inl (s1.seq ha), _, _, rfl, rfl, h4', a, _, _, _, rfl, rfl, s1.seq ha, hv, _, _, rfl, rfl, ⟨by omega, by omega, by decide⟩, ?_⟩
        have hm := q (2 ^ k) H1 (Nat.pow_lt_pow_right (by decide) kl) s1
        rw [show ((2 ^ k : Nat) : Int) = 1 * 2 ^ ((k : Int)).toNat by rw [Int.one_mul, Int.toNat_natCast, Int.natCast_pow]; rfl] at hm
        exact hm
      · refine ⟨_, rfl, lx, _, _, _, rfl, rfl, SqL.of h1, e0, _, _, rfl, rfl, .inr ⟨by decide, by decide⟩, _, rfl, lx, _, _, _, rfl, rfl, SqL.of h1, e1, _, _, rfl, rfl, _, _, rfl, rfl, .inr ⟨by decide, by decide⟩, _, rfl, lx, _, _, _, rfl, rfl, SqL.of h1, e2, _, _, rfl, rfl, _, _, rfl, rfl, ⟨by decide, by decide, by decide⟩, _, _, rfl, rfl, (by show (0 : Int) < _; decide), ?_⟩
        have hm := q (((x0 * 2147483647 + x1) * 2147483647 + x2) % 2 ^ 64).toNat H1 (by omega) s1
        rw [Int.toNat_of_nonneg (Int.emod_nonneg _ (by decide))] at hm
        exact hm
    · refine ⟨_, rfl, lx, _, _, _, rfl, rfl, SqL.of h1, e0, _, _, rfl, rfl, .inr ⟨by decide, by decide⟩, _, rfl, lx, _, _, _, rfl, rfl, SqL.of h1, e1, _, _, rfl, rfl, _, _, rfl, rfl, .inr ⟨by decide, by decide⟩, _, rfl, lx, _, _, _, rfl, rfl, SqL.of h1, e2, _, _, rfl, rfl, _, _, rfl, rfl, ⟨by decide, by decide, by decide⟩, _, _, rfl, rfl, (by show (0 : Int) < _; decide), ?_⟩
      have hm := q (((x0 * 2147483647 + x1) * 2147483647 + x2) % 2 ^ 64).toNat H1 (by omega) s1
      rw [Int.toNat_of_nonneg (Int.emod_nonneg _ (by decide))] at hm
      exact hm

noncomputable def sp_law_alike (K : PySem.W.Frag) : Sp := fun vs H Q _ => ∃ (a b : Addr) (R : Strp), vs = [.ref a, .ref b] ∧ StrT K H a R ∧ StrT K H b R ∧ Q (.bl true) H
theorem sc_law_alike : FnScope ["_law_found", "_law_due", "_law_strip"] ["_law_found", "_law_due"] (defScope s_law_alike) := ⟨rfl, rfl, rfl, by decide +kernel, rfl, by decide +kernel, by decide +kernel⟩
set_option maxHeartbeats 4000000 in
theorem ok_law_alike (T : Tx K mg "_law_alike" s_law_alike ["_law_found", "_law_due"]) (B : Bn mg) (d_law_whole : Df P w K mg base 1 "_law_whole" ["_law_found"] (sp_law_whole K)) : Df P w K mg base 2 "_law_alike" ["_law_found", "_law_due"] (sp_law_alike K) := by
  refine T.df sc_law_alike (fun vs H Q E h => ?_) (fun f cdv A outer s H vs Q E hr h => ?_)
  · obtain ⟨a, b, R, rfl, hA, hB, q⟩ := h
    rfl
  · obtain ⟨a, b, R, rfl, hA, hB, q⟩ := h
    have hu := hr.units
    refine ⟨_, (pss_cons (ps_if ((pw_or (pt_not (pt_val (pe_callB call_isT (by rfl) B.isinstance boot_isinstance (pa_cons (pv 0) (pa_cons (pe_bltn (x := "tuple") (v := .ty "tuple") (by rfl) B.tuple boot_tuple rfl) pa_nil))))) (pw_or1 (pt_cmpR (op_neD hu) (pv 0) (pv 1) (nomark _)))).pt) (pss_one (ps_ret pe_bl)) pss_nil)
      (pss_cons (ps_for PassesOwn.never rfl (pi_tup (pv 0)) (pg_name (i := 2) sc_law_alike.nd rfl (by first | exact Or.inl rfl | exact Or.inr rfl)) (pss_one (ps_if (pt_not (pt_val (pe_df d_law_whole hr (pa_cons (pe_ix ix_tup (pv 2) pe_int (fun _ _ => rfl)) pa_nil)))) (pss_one (ps_ret pe_bl)) pss_nil)))
      (pss_one (ps_ret pe_bl)))), ?_⟩
    obtain ⟨vs, ha, pr⟩ := id hA
    have lay := lay_strD hA.lay
    have dep := dep_strD R
    refine ⟨_, rfl, _, _, a, _, _, _, rfl, rfl, ha, rfl, (fun _ h => h), kit_tt K, _, rfl, iteF ?_⟩
    refine ⟨_, rfl, _, rfl, _, _, hA.isD, hB.isD, lay, lay, by omega, _, rfl, ?_⟩
    rw [SeqAt.eqv_refl _ (show (strD R).canLay0 = true from lay)]
    refine iteF ?_
    refine ⟨_, rfl, a, rfl, ⟨_, ha⟩, for_tup (K := K) (a := a) (xs := vs) (fun i σ H2 => ∃ o2 : Option V, σ = [some (.ref a), some (.ref b), o2] ∧ H2 = H) ⟨none, rfl, rfl⟩ (fun i σ H2 _ ⟨_, _, e⟩ => by rw [e]; exact ha) ?_ ?_⟩
    · rintro i y σ H2 hi ⟨o2, rfl, rfl⟩
      obtain ⟨p, hp, r1, b1, rfl, h1, h2⟩ := paired_at pr hi
      exact ⟨_, rfl, r1, _, _, _, rfl, rfl, h1, (atI_nat (j := 0) rfl), _, "int", rfl, TyOf.int _, _, rfl, iteF ⟨_, rfl, rfl⟩⟩
    · rintro σ H2 ⟨o2, rfl, rfl⟩
      exact q
noncomputable def sp_waived_in (K : PySem.W.Frag) : Sp := fun vs H Q _ => ∃ (a : Addr) (n h : Int) (c : Col), vs = [.ref a, .int n, .int h] ∧ ColV K H a c ∧ GoodD c ∧ ∀ b H', Same H H' → ColV K H' b (waiC n h c) → Q (.ref b) H'
theorem sc_waived_in : FnScope ["column", "number", "ahead", "passing", "first", "moved"] ["column", "number", "ahead"] (defScope s_waived_in) := ⟨rfl, rfl, rfl, by decide +kernel, rfl, by decide +kernel, by decide +kernel⟩
set_option maxHeartbeats 4000000 in
theorem ok_waived_in (T : Tx K mg "waived_in" s_waived_in ["column", "number", "ahead"]) (B : Bn mg) (d_passed_in : Df P w K mg base 2 "passed_in" ["column", "number", "ahead"] (sp_passed_in K)) (d_place_of : Df P w K mg base 1 "place_of" ["column", "number"] (sp_place_of K)) : Df P w K mg base 3 "waived_in" ["column", "number", "ahead"] (sp_waived_in K) := by
  refine T.df sc_waived_in (fun vs H Q E h => ?_) (fun f cdv A outer s H vs Q E hr h => ?_)
  · obtain ⟨a, n, h, c, rfl, hc, ⟨hb, nd, hl⟩, q⟩ := h
    rfl
  · obtain ⟨a, n, h, c, rfl, hc, ⟨hb, nd, hl⟩, q⟩ := h
    have hu := hr.units
    refine ⟨_, (pss_cons (ps_set (i := 3) sc_waived_in.nd rfl (by first | exact Or.inl rfl | exact Or.inr rfl) (pe_df d_passed_in hr (pa_cons (pv 0) (pa_cons (pv 1) (pa_cons (pv 2) pa_nil)))))
      (pss_cons (ps_if (pt_cmpR (op_eqD hu) (pv 3) (pe_tup pa_nil) (nomark _)) (pss_one (ps_ret (pv 0))) pss_nil)
      (pss_cons (ps_set (i := 4) sc_waived_in.nd rfl (by first | exact Or.inl rfl | exact Or.inr rfl) (pe_df d_place_of hr (pa_cons (pv 0) (pa_cons (pv 1) pa_nil))))
      (pss_cons (ps_set (i := 5) sc_waived_in.nd rfl (by first | exact Or.inl rfl | exact Or.inr rfl) (pe_df d_place_of hr (pa_cons (pv 0) (pa_cons (pv 2) pa_nil))))
      (pss_one (ps_ret (pe_op op_catA (pe_op op_catA (pe_op op_catA (pe_slice sl_tupA (pv 0) po_none (po_some (pv 4))) (pe_tup (pa_cons (pe_ix ix_tup (pv 0) (pv 5) (fun _ _ => rfl)) pa_nil))) (pv 3)) (pe_slice sl_tupA (pv 0) (po_some (pe_op op_add (pv 5) pe_int)) po_none)))))))), ?_⟩
    obtain ⟨xs, hx, pr⟩ := hc.bur
    have lx : xs.length = c.length := Paired.length pr
    refine ⟨_, rfl, _, rfl, _, rfl, a, n, h, c, rfl, hc, hb, fun p H1 s1 hp => ?_⟩
    have lp := lay_col (pasC n h c) hp.1
    have dp : (colD (pasC n h c)).depth ≤ 50 := Nat.le_trans (dep_col _) (by decide)
    refine ⟨_, rfl, len_ok rfl, fun e0 he0 => ?_⟩
    have sE := Same.upd (o := .tup []) he0
    have hE : ColV K (upd H1 e0 (.tup [])) e0 [] := ColV.of (SqT.of upd_same) .nil
    have s2 := s1.trans sE
    have hp2 := hp.tk sE.tk
    generalize (upd H1 e0 (.tup [])) = H2 at sE hE s2 hp2 ⊢
    refine ⟨colD (pasC n h c), colD [], hp2.isD, hE.isD, lp, lay_col [] hE.1, Nat.le_trans (dep_col []) (by decide), _, rfl, ?_⟩
    rw [col_eqv]
    refine ite2 (fun h1 => ?_) (fun h1 => ?_)
    · have e : pasC n h c = [] := of_decide_eq_true h1
      refine ⟨_, rfl, q a H2 s2 ?_⟩
      unfold waiC
      rw [if_pos e]
      exact hc.tk s2.tk
    · have ne : pasC n h c ≠ [] := fun z => h1 (decide_eq_true z)
      refine ⟨_, rfl, _, rfl, a, n, c, rfl, hc.tk s2.tk, hb, fun H3 s3 => ⟨fun i hi => ?_, fun hn => absurd (pas_no1 hn) ne⟩⟩
      have s13 := s2.trans s3
      refine ⟨_, rfl, _, rfl, a, h, c, rfl, hc.tk s13.tk, hb, fun H4 s4 => ⟨fun j hj => ?_, fun hn => absurd (pas_no2 hn) ne⟩⟩
      have s14 := s13.trans s4
      have il := hi.lt
      have jl := hj.lt
      obtain ⟨r, _, hr, _⟩ := hj.split
      obtain ⟨vj, hvj⟩ : ∃ v, xs[j]? = some v := ⟨_, List.getElem?_eq_getElem (by omega)⟩
      obtain ⟨r', hr', burj⟩ := paired_at pr hvj
      rw [hr] at hr'
      cases hr'
      refine ⟨_, rfl, _, rfl, _, rfl, a, xs, rfl, s14.tup hx, fun r1 H5 s5 h5 => ?_⟩
      rw [cut_hi (by omega)] at h5
      have s15 := s14.trans s5
      refine ⟨_, rfl, _, rfl, a, _, _, _, rfl, rfl, s15.tup hx, atI_nat hvj, len_ok rfl, fun r2 hr2 => ?_⟩
      have s6 := Same.upd (o := .tup [vj]) hr2
      refine ⟨r1, r2, _, _, rfl, rfl, s6.tup h5, SqT.of upd_same, Nat.le_of_lt (small1000 (by rw [List.length_take]; show _ + 1 ≤ 1000; omega)), fun r3 H7 s7 h7 => ?_⟩
      have s17 := s15.trans (s6.trans s7)
      have sp7 := sE.tk
      obtain ⟨ps, hps, pps⟩ := (hp2.tk (s3.trans (s4.trans (s5.trans (s6.trans s7)))).tk).bur
      have lps : ps.length ≤ 60 := by
        rw [Paired.length pps, pas_at hi hj, List.length_take, List.length_drop]
        omega
      refine ⟨_, rfl, r3, p, _, _, rfl, rfl, h7, hps, Nat.le_of_lt (small1000 (by rw [List.length_append, List.length_take]; show _ + 1 + _ ≤ 1000; omega)), fun r4 H8 s8 h8 => ?_⟩
      have s18 := s17.trans s8
      refine ⟨_, rfl, _, rfl, _, _, rfl, rfl, _, rfl, a, xs, rfl, s18.tup hx, fun r5 H9 s9 h9 => ?_⟩
      rw [show cutV xs (some ((j : Int) + 1)) none = xs.drop (j + 1) from cut_lo (n := j + 1) (by omega)] at h9
      refine ⟨r4, r5, _, _, rfl, rfl, s9.tup h8, h9, Nat.le_of_lt (small1000 (by rw [List.length_append, List.length_append, List.length_take, List.length_drop]; show _ + 1 + _ + _ ≤ 1000; omega)), fun r6 H10 s10 h10 => ?_⟩
      have sA := s18.trans (s9.trans s10)
      refine q r6 H10 sA ?_
      rw [wai_at nd hi hj hr ne]
      have prA := Paired.imp (fun _ _ z => BurE.tk sA.tk z) pr
      exact ColV.of h10 (Paired.app (Paired.app (Paired.app (paired_take i prA).1 (.cons (burj.tk sA.tk) .nil)) (Paired.imp (fun _ _ z => BurE.tk (s8.trans (s9.trans s10)).tk z) pps)) (paired_take (j + 1) prA).2)
noncomputable def sp_strips_of (K : PySem.W.Frag) : Sp := fun vs H Q _ => ∃ (l : Addr) (xs : List V) (L : Strp) (g : Nat → Option Col) (C : List Col), vs = [.ref l] ∧ SqL K H l xs ∧ Paired (PairE K H) xs L ∧ GrdOf g L ∧ L.length ≤ 300 ∧ C.length < 60 ∧ (∀ p ∈ L, p.2 ∈ C) ∧ ∀ a R H', Same H H' → StrT K H' a R → IsStr g R → Q (.ref a) H'
theorem sc_strips_of : FnScope ["pairs", "grounds", "pair"] ["pairs"] (defScope s_strips_of) := ⟨rfl, rfl, rfl, by decide +kernel, rfl, by decide +kernel, by decide +kernel⟩
set_option maxHeartbeats 4000000 in
theorem ok_strips_of (T : Tx K mg "strips_of" s_strips_of ["pairs"]) (B : Bn mg) (d_lowest_of : Df P w K mg base 2 "lowest_of" ["strip"] (sp_lowest_of K)) : Df P w K mg base 5 "strips_of" ["pairs"] (sp_strips_of K) := by
  refine T.df sc_strips_of (fun vs H Q E h => ?_) (fun f cdv A outer s H vs Q E hr h => ?_)
  · obtain ⟨l, xs, L, g, C, rfl, hl, pr, hg, hz, hC, hLC, q⟩ := h
    rfl
  · obtain ⟨l, xs, L, g, C, rfl, hl, pr, hg, hz, hC, hLC, q⟩ := h
    have hu := hr.units
    refine ⟨_, (pss_cons (ps_set (i := 1) sc_strips_of.nd rfl (by first | exact Or.inl rfl | exact Or.inr rfl) pe_dnewC)
      (pss_cons (ps_for PassesOwn.never rfl (pi_list (pv 0)) (pg_name (i := 2) sc_strips_of.nd rfl (by first | exact Or.inl rfl | exact Or.inr rfl)) (pss_one (ps_if (pt_cmpR op_ne (pe_ix ix_tup (pv 2) pe_int (fun _ _ => rfl)) pe_int (nomark _)) (pss_one (ps_cput hu (pv 1) (pe_ix ix_tup (pv 2) pe_int (fun _ _ => rfl)) (pe_op op_or (pe_cget2 hu (pv 1) (pe_ix ix_tup (pv 2) pe_int (fun _ _ => rfl)) pe_int ⟨rfl, rfl, rfl, rfl⟩) (pe_ix ix_tup (pv 2) pe_int (fun _ _ => rfl))) rfl)) pss_nil)))
      (pss_one (ps_ret (pe_callTy call_tuple_of (by rfl) B.tuple boot_tuple (pa_cons (pe_srtK d_lowest_of hr (by rfl) B.sorted (pa_cons (pe_lcomp ["column"] [("grounds", 1)] (clOf _ ["grounds"]) rfl (by rfl) rfl (by decide +kernel) (by decide +kernel) (clOf_cells (by rfl)) (kin_of (by rfl)) (fun p hp => by
        cases hp with
        | head => exact ⟨rfl, rfl⟩
        | tail _ hp => exact (by cases hp)) (fun p hp => by
        cases hp with
        | head => exact rfl
        | tail _ hp => exact (by cases hp)) (wk_name (by decide)) (pi_col (pv 1)) (fun _ _ _ _ => pg_name (i := 0) (show (["column", "grounds"] : List Str).Nodup by decide +kernel) rfl (Or.inl rfl) (Or.inr rfl)) (fun _ _ _ _ => pifs_nil) (fun _ _ _ _ => (pe_tup (pa_cons (pe_cgetK (P := P) (w := w) (K := K) rfl rfl rfl hu (pv 1) (pv 0) (fun _ _ => rfl)) (pa_cons (pv 0) pa_nil))))) pa_nil)) pa_nil)))))), ?_⟩
    have lx : xs.length = L.length := Paired.length pr
    intro d hd hsys
    have sd := Same.upd (o := ObjO d emptyD) hd
    have hc0 : ColAt P w K (upd H d (ObjO d emptyD)) d emptyD [] := ⟨upd_same, colO_empty P w, hsys, fun t ht => nomatch ht⟩
    generalize (upd H d (ObjO d emptyD)) = H1 at sd hc0 ⊢
    have subC : ∀ i, ((grp (L.take i)).map (·.1)).length ≤ C.length := fun i => by
      have ok := grp_ok (L := L) (fun p hp => hg.lt p hp) i
      refine List.Nodup.length_le_of_subset ok.nd fun c hc => ?_
      obtain ⟨p, hp, e⟩ := List.mem_map.mp (ok.sub c hc)
      rw [← e]
      exact hLC p (List.mem_of_mem_take hp)
    refine ⟨_, rfl, l, rfl, ⟨_, sd.seq hl⟩, for_list (K := K) (a := l) (xs := xs) (fun i σ H2 => ∃ (o1 : Option V) (ob : Obj) (T : CT), σ = [some (.ref l), some (.ref d), o1] ∧ Same H H2 ∧ ColAt P w K H2 d ob T ∧ TGr T (grp (L.take i))) ⟨none, emptyD, [], rfl, sd, hc0, .nil⟩ (fun i σ H2 _ ⟨_, _, _, _, e, _⟩ => e.seq hl) ?_ ?_⟩
    · rintro i y σ H2 hi ⟨o1, ob, T, rfl, s2, hcol, tg⟩
      obtain ⟨p, hp, r1, b, rfl, hr0, hb0⟩ := paired_at pr hi
      have hr1 := s2.tup hr0
      have hb := hb0.tk s2.tk
      have snoc := grp_snoc hp
      refine ⟨_, rfl, r1, _, _, _, rfl, rfl, hr1, (atI_nat (j := 0) rfl), rfl, _, rfl, ?_⟩
      refine ite2 (fun h1 => ?_) (fun h1 => ?_)
      · have h0 : p.1 ≠ 0 := fun z => by
          rw [z] at h1
          revert h1
          decide
        have lT : T.length ≤ 60 := by
          have l1 : T.length = (grp (L.take i)).length := Paired.length tg
          have l2 := subC i
          rw [List.length_map] at l2
          omega
        refine ⟨_, rfl, d, ob, T, rfl, hcol, _, rfl, r1, _, _, _, rfl, rfl, hr1, (atI_nat (j := 1) rfl), ob, T, b, p.2, hcol, rfl, hb, ?_⟩
        rw [tgr_at tg]
        refine ⟨_, rfl, r1, _, _, _, rfl, rfl, hr1, (atI_nat (j := 0) rfl), _, _, rfl, rfl, ?_⟩
        have eor : V.int (Builtin.bitOr ((gAt (grp (L.take i)) p.2 : Nat) : Int) ((p.1 : Nat) : Int)) = V.int ((gAt (grp (L.take i)) p.2 ||| p.1 : Nat) : Int) := congrArg V.int (bitOr_nat _ _)
        refine ⟨_, rfl, _, rfl, r1, _, _, _, rfl, rfl, hr1, (atI_nat (j := 1) rfl), d, ob, T, b, p.2, rfl, hcol, rfl, hb, by omega, fun o' ho0 => ?_⟩
        have ho' : ColO P w o' (putT T p.2 b (.int ((gAt (grp (L.take i)) p.2 ||| p.1 : Nat) : Int))) := by rw [← eor]; exact ho0
        obtain ⟨c1, c2, c3, c4⟩ := hcol
        have tk := TK.obj (o := ObjO d o') c1
        refine ⟨_, o', _, rfl, ?_, ⟨upd_same, ho', hsys, ?_⟩, ?_⟩
        · intro c o e
          rw [upd_ne (fun z => by rw [z, hd] at e; cases e)]
          exact s2 _ _ e
        · exact putT_keys (P := fun t => ColV K _ t.2.1 t.1) (fun t ht => (c4 t ht).tk tk) (hb.tk tk) (fun t ht _ => ht)
        · rw [snoc, if_neg h0]
          exact tgr_put tg
      · have h0 : p.1 = 0 := Decidable.byContradiction fun z => h1 (by rw [decide_eq_false (fun w => z (by have := V.int.inj w; omega))]; rfl)
        refine ⟨_, ob, T, rfl, s2, hcol, ?_⟩
        rw [snoc, if_pos h0]
        exact tg
    · rintro σ H2 ⟨o1, ob, T, rfl, s2, hcol, tg⟩
      rw [lx, List.take_length] at tg
      have ok := grp_ok (L := L) (fun p hp => hg.lt p hp) L.length
      have sC := subC L.length
      rw [List.take_length] at ok sC
      rw [List.length_map] at sC
      generalize grp L = D at tg ok sC
      have lT : T.length = D.length := Paired.length tg
      obtain ⟨c1, c2, c3, c4⟩ := id hcol
      refine ⟨_, rfl, d, ob, T, rfl, c1, c2, c3, fun A1 hA1 => ?_⟩
      refine compC (d := d) (o := ob) (T := T) (fun i acc H3 => Same H2 H3 ∧ H3 A1 = some (.lst acc) ∧ Paired (PairE K H3) acc ((D.take i).map fun t => (t.2, t.1))) ⟨Same.upd hA1, upd_same, .nil⟩ (fun i acc H3 _ ⟨e, _⟩ => e _ _ c1) ?_ ?_
      · rintro i t acc H3 hi ⟨s3, h3, pr3⟩
        obtain ⟨dd, hdd, e1, e2⟩ := tgr_find tg ok.nd hi
        have hb3 := (c4 t (List.mem_of_getElem? hi)).tk s3.tk
        have hcol3 : ColAt P w K H3 d ob T := ⟨s3 _ _ c1, c2, c3, fun u hu => (c4 u hu).tk s3.tk⟩
        refine ⟨_, rfl, _, rfl, d, ob, T, t.2.1, t.1, _, rfl, hcol3, rfl, hb3, e2, _, rfl, len_ok rfl, fun r4 hr4 => ?_⟩
        have s4 := Same.upd (o := .tup [.int (dd.2 : Nat), .ref t.2.1]) hr4
        have lacc : acc.length < sizeLine := by
          rw [Paired.length pr3, List.length_map, List.length_take]
          exact small1000 (by omega)
        refine ⟨s4 _ _ h3, lacc, ?_, upd_same, ?_⟩
        · intro b5 o5 e5
          rw [upd_ne (fun z => by rw [z, hA1] at e5; cases e5)]
          exact s4 _ _ (s3 _ _ e5)
        · rw [List.take_add_one, hdd, Option.toList_some, List.map_append]
          have tk2 := TK.lst (o := .lst (acc ++ [.ref r4])) (s4 _ _ h3)
          refine Paired.app (Paired.imp (fun _ _ z => (z.tk s4.tk).tk tk2) pr3) (.cons (PairE.tk tk2 ⟨r4, t.2.1, rfl, SqT.of upd_same, ?_⟩) .nil)
          have := hb3.tk s4.tk
          rw [e1] at this
          exact this
      · rintro acc H3 ⟨s3, h3, pr3⟩
        rw [lT, List.take_length] at pr3
        have la : acc.length = D.length := by rw [Paired.length pr3, List.length_map]
        refine ⟨A1, acc, (D.map fun t => (t.2, t.1)).map fun p => ((LM.lowN p.1 : Nat) : Int), rfl, SqL.of h3, by omega, by rw [List.length_map, List.length_map, la], ?_, fun l4 ys H4 hl4 s4 h4 sk => ?_⟩
        · intro i v z hv hz H4 s4
          obtain ⟨p, hp, r5, b5, rfl, h5, _⟩ := paired_at pr3 hv
          rw [List.getElem?_map, hp] at hz
          cases hz
          obtain ⟨t, ht, rfl⟩ := List.mem_map.mp (List.mem_of_getElem? hp)
          obtain ⟨k1, k2, _⟩ := ok.ok t ht
          exact ⟨r5, t.2, _, rfl, s4.tup h5, k1, k2, rfl, rfl⟩
        · obtain ⟨R, pr5, pm, so⟩ := srt_strips pr3 sk
          refine ⟨l4, _, rfl, .inl ⟨SqL.of h4, fun l6 hl6 => ?_⟩⟩
          have s6 := Same.upd (o := .tup ys) hl6
          exact q l6 R _ (s2.trans (s3.trans (s4.trans s6))) ⟨ys, SqT.of upd_same, Paired.imp (fun _ _ z => z.tk (s4.trans s6).tk) pr5⟩ (grp_strips hg ok pm so)
noncomputable def sp_kept_on (K : PySem.W.Frag) : Sp := fun vs H Q _ => ∃ (a : Addr) (m : Nat) (R : Strp) (g : Nat → Option Col), vs = [.ref a, .int (m : Nat)] ∧ StrT K H a R ∧ IsStr g R ∧ R.length < 60 ∧ ∀ b R' H', Same H H' → StrT K H' b R' → IsStr (fun i => if m.testBit i = true then g i else none) R' → Q (.ref b) H'
theorem sc_kept_on : FnScope ["strips", "cells"] ["strips", "cells"] (defScope s_kept_on) := ⟨rfl, rfl, rfl, by decide +kernel, rfl, by decide +kernel, by decide +kernel⟩
set_option maxHeartbeats 4000000 in
theorem ok_kept_on (T : Tx K mg "kept_on" s_kept_on ["strips", "cells"]) (B : Bn mg) (d_strips_of : Df P w K mg base 5 "strips_of" ["pairs"] (sp_strips_of K)) : Df P w K mg base 6 "kept_on" ["strips", "cells"] (sp_kept_on K) := by
  refine T.df sc_kept_on (fun vs H Q E h => ?_) (fun f cdv A outer s H vs Q E hr h => ?_)
  · obtain ⟨a, m, R, g, rfl, hT, hG, hz, q⟩ := h
    rfl
  · obtain ⟨a, m, R, g, rfl, hT, hG, hz, q⟩ := h
    refine ⟨_, (pss_one (ps_ret (pe_df d_strips_of hr (pa_cons (pe_lcomp ["strip"] [("cells", 1)] (clOf _ ["cells"]) rfl (by rfl) rfl (by decide +kernel) (by decide +kernel) (clOf_cells (by rfl)) (kin_of (by rfl)) (fun p hp => by
        cases hp with
        | head => exact ⟨rfl, rfl⟩
        | tail _ hp => exact (by cases hp)) (fun p hp => by
        cases hp with
        | head => exact rfl
        | tail _ hp => exact (by cases hp)) (wk_name (by decide)) (pi_tup (pv 0)) (fun _ _ _ _ => pg_name (i := 0) (show (["strip", "cells"] : List Str).Nodup by decide +kernel) rfl (Or.inl rfl) (Or.inr rfl)) (fun _ _ _ _ => pifs_nil) (fun _ _ _ _ => (pe_tup (pa_cons (pe_op op_and (pe_ix (ix_tupK (K := K) rfl) (pv 0) pe_int (fun _ _ => rfl)) (pv 1)) (pa_cons (pe_ix (ix_tupK (K := K) rfl) (pv 0) pe_int (fun _ _ => rfl)) pa_nil))))) pa_nil)))), ?_⟩
    obtain ⟨vs, ha, pr⟩ := hT
    have lv : vs.length = R.length := Paired.length pr
    refine ⟨_, rfl, a, rfl, ⟨_, ha⟩, fun A1 hA1 => ?_⟩
    refine compT (K := K) (a := a) (xs := vs) (fun i acc H2 => Same H H2 ∧ H2 A1 = some (.lst acc) ∧ Paired (PairE K H2) acc ((R.take i).map fun p => (p.1 &&& m, p.2))) ⟨Same.upd hA1, upd_same, .nil⟩ (fun i acc H2 _ ⟨e, _⟩ => e.tup ha) ?_ ?_
    · rintro i y acc H2 hi ⟨s2, h2, pr2⟩
      obtain ⟨p, hp, r1, b, rfl, h1, hb⟩ := paired_at pr hi
      have h12 := s2.tup h1
      refine ⟨_, rfl, r1, _, _, _, rfl, rfl, h12, (atI_nat (j := 0) rfl), _, rfl, _, _, rfl, rfl, ?_⟩
      refine ⟨_, rfl, r1, _, _, _, rfl, rfl, h12, (atI_nat (j := 1) rfl), len_ok rfl, fun r4 hr4 => ?_⟩
      have eand : V.int (Builtin.bitAnd ((p.1 : Nat) : Int) ((m : Nat) : Int)) = V.int ((p.1 &&& m : Nat) : Int) := congrArg V.int (bitAnd_nat _ _)
      have s4 := Same.upd (o := .tup [V.int (Builtin.bitAnd ((p.1 : Nat) : Int) ((m : Nat) : Int)), .ref b]) hr4
      have lacc : acc.length < sizeLine := by
        rw [Paired.length pr2, List.length_map, List.length_take]
        exact small1000 (by omega)
      refine ⟨s4 _ _ h2, lacc, ?_, upd_same, ?_⟩
      · intro b5 o5 e5
        rw [upd_ne (fun z => by rw [z, hA1] at e5; cases e5)]
        exact s4 _ _ (s2 _ _ e5)
      · rw [List.take_add_one, hp, Option.toList_some, List.map_append]
        have tk2 := TK.lst (o := .lst (acc ++ [.ref r4])) (s4 _ _ h2)
        refine Paired.app (Paired.imp (fun _ _ z => (z.tk s4.tk).tk tk2) pr2) (.cons (PairE.tk tk2 ⟨r4, b, rfl, ?_, (hb.tk s2.tk).tk s4.tk⟩) .nil)
        show SqT K _ r4 [V.int ((p.1 &&& m : Nat) : Int), .ref b]
        rw [← eand]
        exact SqT.of upd_same
    · rintro acc H2 ⟨s2, h2, pr2⟩
      rw [lv, List.take_length] at pr2
      refine ⟨A1, acc, _, _, R.map (·.2), rfl, SqL.of h2, pr2, grd_cut hG m, by rw [List.length_map]; omega, by rw [List.length_map]; omega, fun p hp => ?_, fun b R' H' s' hT' hG' => q b R' H' (s2.trans s') hT' hG'⟩
      obtain ⟨p', hp', rfl⟩ := List.mem_map.mp hp
      exact List.mem_map.mpr ⟨p', hp', rfl⟩
noncomputable def sp_together (K : PySem.W.Frag) : Sp := fun vs H Q _ => ∃ (a b : Addr) (R S : Strp) (g1 g2 : Nat → Option Col) (C : List Col), vs = [.ref a, .ref b] ∧ StrT K H a R ∧ StrT K H b S ∧ GrdOf g1 R ∧ GrdOf g2 S ∧ (R.length < 60 ∧ S.length < 60) ∧ (∀ i, i < 64 → g1 i = none ∨ g2 i = none) ∧ (C.length < 60 ∧ (∀ p ∈ R, p.2 ∈ C) ∧ ∀ p ∈ S, p.2 ∈ C) ∧ ∀ c R' H', Same H H' → StrT K H' c R' → IsStr (fun i => (g1 i).or (g2 i)) R' → Q (.ref c) H'
theorem sc_together : FnScope ["one", "other"] ["one", "other"] (defScope s_together) := ⟨rfl, rfl, rfl, by decide +kernel, rfl, by decide +kernel, by decide +kernel⟩
set_option maxHeartbeats 4000000 in
theorem ok_together (T : Tx K mg "together" s_together ["one", "other"]) (B : Bn mg) (d_strips_of : Df P w K mg base 5 "strips_of" ["pairs"] (sp_strips_of K)) : Df P w K mg base 6 "together" ["one", "other"] (sp_together K) := by
  refine T.df sc_together (fun vs H Q E h => ?_) (fun f cdv A outer s H vs Q E hr h => ?_)
  · obtain ⟨a, b, R, S, g1, g2, C, rfl, hA, hB, hG1, hG2, ⟨z1, z2⟩, ap, ⟨lC, c1, c2⟩, q⟩ := h
    rfl
  · obtain ⟨a, b, R, S, g1, g2, C, rfl, hA, hB, hG1, hG2, ⟨z1, z2⟩, ap, ⟨lC, c1, c2⟩, q⟩ := h
    refine ⟨_, (pss_one (ps_ret (pe_df d_strips_of hr (pa_cons (pe_op op_cat (pe_callTy call_list_of (by rfl) B.list boot_list (pa_cons (pv 0) pa_nil)) (pe_callTy call_list_of (by rfl) B.list boot_list (pa_cons (pv 1) pa_nil))) pa_nil)))), ?_⟩
    obtain ⟨xs, ha, pa⟩ := hA
    obtain ⟨ys, hb, pb⟩ := hB
    have l1 : xs.length = R.length := Paired.length pa
    have l2 : ys.length = S.length := Paired.length pb
    refine ⟨_, rfl, a, _, rfl, .inr ha, fun la hla => ?_⟩
    have s1 := Same.upd (o := .lst xs) hla
    refine ⟨_, rfl, b, _, rfl, .inr (s1.tup hb), fun lb hlb => ?_⟩
    have s2 := Same.upd (o := .lst ys) hlb
    have h1 := s2 _ _ (upd_same (H := H) (a := la) (o := .lst xs))
    refine ⟨la, lb, xs, ys, rfl, rfl, h1, upd_same, Nat.le_of_lt (small1000 (by omega)), fun lc hlc => ?_⟩
    have s3 := Same.upd (o := .lst (xs ++ ys)) hlc
    have sA := s1.trans (s2.trans s3)
    refine ⟨lc, xs ++ ys, R ++ S, _, C, rfl, SqL.of upd_same, Paired.app (Paired.imp (fun _ _ z => z.tk sA.tk) pa) (Paired.imp (fun _ _ z => z.tk sA.tk) pb), grd_two hG1 hG2 ap, by rw [List.length_append]; omega, lC, fun p hp => ?_, fun c R' H' s' hT' hG' => q c R' H' (sA.trans s') hT' hG'⟩
    rcases List.mem_append.mp hp with z | z
    · exact c1 p z
    · exact c2 p z
noncomputable def sp_laid (K : PySem.W.Frag) : Sp := fun vs H Q _ => ∃ (a : Addr) (m : Nat) (tv : V) (tl : Option (List Int)) (rb : V) (bb : List Key) (R : Strp) (g : Nat → Option Col), vs = [.ref a, .int (m : Nat), rb, tv] ∧ BurE K H rb bb ∧ TolV K H tv tl ∧ StrT K H a R ∧ IsStr g R ∧ R.length < 29 ∧ (∀ p ∈ R, GoodD p.2) ∧ ∀ b R' H', Same H H' → StrT K H' b R' → IsStr (fun i => if m.testBit i = true then (g i).map (layC tl bb) else (g i).map id) R' → Q (.ref b) H'
theorem sc_laid : FnScope ["strips", "ground", "burden", "told", "pairs", "strip"] ["strips", "ground", "burden", "told"] (defScope s_laid) := ⟨rfl, rfl, rfl, by decide +kernel, rfl, by decide +kernel, by decide +kernel⟩
set_option maxHeartbeats 4000000 in
theorem ok_laid (T : TxD K mg "laid" s_laid ["strips", "ground", "burden", "told"] [.none]) (B : Bn mg) (d_strips_of : Df P w K mg base 5 "strips_of" ["pairs"] (sp_strips_of K)) (d_laid_in : Df P w K mg base 2 "laid_in" ["column", "burden", "told"] (sp_laid_in K)) : DfD P w K mg base 6 "laid" ["strips", "ground", "burden", "told"] (sp_laid K) [.none] := by
  refine T.dfD sc_laid (fun vs H Q E h => ?_) (fun f cdv A outer s H vs Q E hr h => ?_)
  · obtain ⟨a, m, tv, tl, rb, bb, R, g, rfl, hbb, hTl, hT, hG, hz, hgood, q⟩ := h
    rfl
  · obtain ⟨a, m, tv, tl, rb, bb, R, g, rfl, hbb, hTl, hT, hG, hz, hgood, q⟩ := h
    refine ⟨_, (pss_cons (ps_set (i := 4) sc_laid.nd rfl (by first | exact Or.inl rfl | exact Or.inr rfl) (pe_lst pa_nil))
      (pss_cons (ps_for PassesOwn.never rfl (pi_tup (pv 0)) (pg_name (i := 5) sc_laid.nd rfl (by first | exact Or.inl rfl | exact Or.inr rfl)) (pss_cons (ps_expr (pe_bm PySem.F.plainAttrs_list PySem.F.slot_list_append PySem.F.type_list_append mt_append (pv 4) (pa_cons (pe_tup (pa_cons (pe_op op_and (pe_ix ix_tup (pv 5) pe_int (fun _ _ => rfl)) (pv 1)) (pa_cons (pe_df d_laid_in hr (pa_cons (pe_ix ix_tup (pv 5) pe_int (fun _ _ => rfl)) (pa_cons (pv 2) (pa_cons (pv 3) pa_nil)))) pa_nil))) pa_nil)))
      (pss_one (ps_expr (pe_bm PySem.F.plainAttrs_list PySem.F.slot_list_append PySem.F.type_list_append mt_append (pv 4) (pa_cons (pe_tup (pa_cons (pe_op op_and (pe_ix ix_tup (pv 5) pe_int (fun _ _ => rfl)) (pe_un un_inv (pv 1))) (pa_cons (pe_ix ix_tup (pv 5) pe_int (fun _ _ => rfl)) pa_nil))) pa_nil))))))
      (pss_one (ps_ret (pe_df d_strips_of hr (pa_cons (pv 4) pa_nil)))))), ?_⟩
    obtain ⟨vs, ha, pr⟩ := hT
    have lv : vs.length = R.length := Paired.length pr
    refine ⟨len_ok rfl, fun l hl => ?_⟩
    have s0 := Same.upd (o := .lst []) hl
    refine ⟨_, rfl, a, rfl, ⟨_, s0.tup ha⟩, for_tup (K := K) (a := a) (xs := vs) (fun i σ H2 => ∃ (o5 : Option V) (ys : List V), σ = [some (.ref a), some (.int (m : Nat)), some rb, some tv, some (.ref l), o5] ∧ Same H H2 ∧ H2 l = some (.lst ys) ∧ Paired (PairE K H2) ys ((R.take i).flatMap fun p => [(p.1 &&& m, layC tl bb p.2), (dif p.1 m, id p.2)])) ⟨none, [], rfl, s0, upd_same, .nil⟩ (fun i σ H2 _ ⟨_, _, _, e, _⟩ => e.tup ha) ?_ ?_⟩
    · rintro i y σ H2 hi ⟨o5, ys, rfl, s2, h2, py⟩
      obtain ⟨p, hp, r1, b, rfl, hr1, hb1⟩ := paired_at pr hi
      have gc := hgood p (List.mem_of_getElem? hp)
      have lys : ys.length ≤ 58 := by
        rw [Paired.length py, len_two, List.length_take]
        omega
      have eand : V.int (Builtin.bitAnd ((p.1 : Nat) : Int) ((m : Nat) : Int)) = V.int ((p.1 &&& m : Nat) : Int) := congrArg V.int (bitAnd_nat _ _)
      have edif : V.int (Builtin.bitAnd ((p.1 : Nat) : Int) (Builtin.bitNot ((m : Nat) : Int))) = V.int ((dif p.1 m : Nat) : Int) := congrArg V.int (bitAnd_dif _ _)
      refine ⟨_, rfl, .inl ⟨rfl, _, SqL.of h2⟩, _, rfl, r1, _, _, _, rfl, rfl, s2.tup hr1, (atI_nat (j := 0) rfl), _, rfl, _, _, rfl, rfl, ?_⟩
      refine ⟨_, rfl, r1, _, _, _, rfl, rfl, s2.tup hr1, (atI_nat (j := 1) rfl), _, rfl, _, rfl, b, tv, tl, rb, bb, p.2, rfl, hbb.tk s2.tk, hb1.tk s2.tk, gc, hTl.same s2, fun b3 H3 s3 hc3 => ?_⟩
      refine ⟨len_ok rfl, fun r4 hr4 => ?_⟩
      have s4 := Same.upd (o := .tup [V.int (Builtin.bitAnd ((p.1 : Nat) : Int) ((m : Nat) : Int)), .ref b3]) hr4
      have s34 := s3.trans s4
      have h4 := s34 _ _ h2
      have tk4 := TK.lst (o := .lst (ys ++ [.ref r4])) h4
      refine ⟨l, _, _, rfl, rfl, h4, small1000 (by omega), ?_⟩
      have e4 : PairE K (upd (upd H3 r4 (.tup [V.int (Builtin.bitAnd ((p.1 : Nat) : Int) ((m : Nat) : Int)), .ref b3])) l (.lst (ys ++ [.ref r4]))) (.ref r4) (p.1 &&& m, layC tl bb p.2) := by
        refine PairE.tk tk4 ⟨r4, b3, rfl, ?_, hc3.tk s4.tk⟩
        show SqT K _ r4 [V.int ((p.1 &&& m : Nat) : Int), .ref b3]
        rw [← eand]
        exact SqT.of upd_same
      have py4 := Paired.imp (fun _ _ z => PairE.tk tk4 (PairE.tk s34.tk z)) py
      have s5 : Same H (upd (upd H3 r4 (.tup [V.int (Builtin.bitAnd ((p.1 : Nat) : Int) ((m : Nat) : Int)), .ref b3])) l (.lst (ys ++ [.ref r4]))) := fun b5 o5 e5 => by
        rw [upd_ne (fun z => by rw [z, hl] at e5; cases e5)]
        exact s34 _ _ (s2 _ _ e5)
      have h5 : (upd (upd H3 r4 (.tup [V.int (Builtin.bitAnd ((p.1 : Nat) : Int) ((m : Nat) : Int)), .ref b3])) l (.lst (ys ++ [.ref r4]))) l = some (.lst (ys ++ [.ref r4])) := upd_same
      have q5 := Paired.app py4 (.cons e4 .nil)
      generalize (upd (upd H3 r4 (.tup [V.int (Builtin.bitAnd ((p.1 : Nat) : Int) ((m : Nat) : Int)), .ref b3])) l (.lst (ys ++ [.ref r4]))) = H5 at s5 h5 q5 ⊢
      refine ⟨_, rfl, .inl ⟨rfl, _, SqL.of h5⟩, _, rfl, r1, _, _, _, rfl, rfl, s5.tup hr1, (atI_nat (j := 0) rfl), _, rfl, _, rfl, _, _, rfl, rfl, ?_⟩
      refine ⟨_, rfl, r1, _, _, _, rfl, rfl, s5.tup hr1, (atI_nat (j := 1) rfl), len_ok rfl, fun r7 hr7 => ?_⟩
      have s7 := Same.upd (o := .tup [V.int (Builtin.bitAnd ((p.1 : Nat) : Int) (Builtin.bitNot ((m : Nat) : Int))), .ref b]) hr7
      have h7 := s7 _ _ h5
      have tk7 := TK.lst (o := .lst (ys ++ [.ref r4] ++ [.ref r7])) h7
      refine ⟨l, _, _, rfl, rfl, h7, small1000 (by rw [List.length_append]; show _ + 1 ≤ 1000; omega), _, ys ++ [.ref r4] ++ [.ref r7], rfl, fun b8 o8 e8 => ?_, upd_same, ?_⟩
      · rw [upd_ne (fun z => by rw [z, hl] at e8; cases e8)]
        exact s7 _ _ (s5 _ _ e8)
      · rw [List.take_add_one, hp, Option.toList_some, List.flatMap_append]
        have e7 : PairE K (upd (upd H5 r7 (.tup [V.int (Builtin.bitAnd ((p.1 : Nat) : Int) (Builtin.bitNot ((m : Nat) : Int))), .ref b])) l (.lst (ys ++ [.ref r4] ++ [.ref r7]))) (.ref r7) (dif p.1 m, id p.2) := by
          refine PairE.tk tk7 ⟨r7, b, rfl, ?_, (hb1.tk s5.tk).tk s7.tk⟩
          show SqT K _ r7 [V.int ((dif p.1 m : Nat) : Int), .ref b]
          rw [← edif]
          exact SqT.of upd_same
        have := Paired.app (Paired.imp (fun _ _ z => PairE.tk tk7 (PairE.tk s7.tk z)) q5) (.cons e7 .nil)
        rw [List.append_assoc] at this
        rw [List.append_assoc]
        simpa using this
    · rintro σ H2 ⟨o5, ys, rfl, s2, h2, py⟩
      rw [lv, List.take_length] at py
      refine ⟨_, rfl, l, ys, _, _, (R.map fun p => layC tl bb p.2) ++ R.map fun p => id p.2, rfl, SqL.of h2, py, grd_both hG m (layC tl bb) id, by rw [len_two]; omega, by rw [List.length_append, List.length_map, List.length_map]; omega, fun p hp => ?_, fun b R' H' s' hT' hG' => q b R' H' (s2.trans s') hT' hG'⟩
      obtain ⟨p', hp', z⟩ := List.mem_flatMap.mp hp
      simp only [List.mem_cons, List.not_mem_nil, or_false] at z
      rcases z with rfl | rfl
      · exact List.mem_append_left _ (List.mem_map.mpr ⟨p', hp', rfl⟩)
      · exact List.mem_append_right _ (List.mem_map.mpr ⟨p', hp', rfl⟩)
noncomputable def sp_lifted (K : PySem.W.Frag) : Sp := fun vs H Q _ => ∃ (a : Addr) (n : Int) (R : Strp) (g : Nat → Option Col), vs = [.ref a, .int n] ∧ StrT K H a R ∧ IsStr g R ∧ R.length < 60 ∧ (∀ p ∈ R, GoodD p.2) ∧ ∀ b R' H', Same H H' → StrT K H' b R' → IsStr (fun i => (g i).map (wo n)) R' → Q (.ref b) H'
theorem sc_lifted : FnScope ["strips", "number"] ["strips", "number"] (defScope s_lifted) := ⟨rfl, rfl, rfl, by decide +kernel, rfl, by decide +kernel, by decide +kernel⟩
set_option maxHeartbeats 4000000 in
theorem ok_lifted (T : Tx K mg "lifted" s_lifted ["strips", "number"]) (B : Bn mg) (d_strips_of : Df P w K mg base 5 "strips_of" ["pairs"] (sp_strips_of K)) (d_lifted_from : Df P w K mg base 1 "lifted_from" ["column", "number"] (sp_lifted_from K)) : Df P w K mg base 6 "lifted" ["strips", "number"] (sp_lifted K) := by
  refine T.df sc_lifted (fun vs H Q E h => ?_) (fun f cdv A outer s H vs Q E hr h => ?_)
  · obtain ⟨a, n, R, g, rfl, hT, hG, hz, hgood, q⟩ := h
    rfl
  · obtain ⟨a, n, R, g, rfl, hT, hG, hz, hgood, q⟩ := h
    refine ⟨_, (pss_one (ps_ret (pe_df d_strips_of hr (pa_cons (pe_lcomp ["strip"] [("number", 1)] (clOf _ ["number"]) rfl (by rfl) rfl (by decide +kernel) (by decide +kernel) (clOf_cells (by rfl)) (kin_of (by rfl)) (fun p hp => by
        cases hp with
        | head => exact ⟨rfl, rfl⟩
        | tail _ hp => exact (by cases hp)) (fun p hp => by
        cases hp with
        | head => exact rfl
        | tail _ hp => exact (by cases hp)) (wk_name (by decide)) (pi_tup (pv 0)) (fun _ _ _ _ => pg_name (i := 0) (show (["strip", "number"] : List Str).Nodup by decide +kernel) rfl (Or.inl rfl) (Or.inr rfl)) (fun _ _ _ _ => pifs_nil) (fun _ _ _ _ => (pe_tup (pa_cons (pe_ix (ix_tupK (K := K) rfl) (pv 0) pe_int (fun _ _ => rfl)) (pa_cons (pe_df d_lifted_from hr (pa_cons (pe_ix (ix_tupK (K := K) rfl) (pv 0) pe_int (fun _ _ => rfl)) (pa_cons (pv 1) pa_nil))) pa_nil))))) pa_nil)))), ?_⟩
    obtain ⟨vs, ha, pr⟩ := hT
    have lv : vs.length = R.length := Paired.length pr
    refine ⟨_, rfl, a, rfl, ⟨_, ha⟩, fun A1 hA1 => ?_⟩
    refine compT (K := K) (a := a) (xs := vs) (fun i acc H2 => Same H H2 ∧ H2 A1 = some (.lst acc) ∧ Paired (PairE K H2) acc ((R.take i).map fun p => (p.1, wo n p.2))) ⟨Same.upd hA1, upd_same, .nil⟩ (fun i acc H2 _ ⟨e, _⟩ => e.tup ha) ?_ ?_
    · rintro i y acc H2 hi ⟨s2, h2, pr2⟩
      obtain ⟨p, hp, r1, b, rfl, h1, hb⟩ := paired_at pr hi
      have gc := hgood p (List.mem_of_getElem? hp)
      have h12 := s2.tup h1
      refine ⟨_, rfl, r1, _, _, _, rfl, rfl, h12, (atI_nat (j := 0) rfl), ?_⟩
      refine ⟨_, rfl, r1, _, _, _, rfl, rfl, h12, (atI_nat (j := 1) rfl), _, rfl, b, n, p.2, rfl, hb.tk s2.tk, gc.1, by have := gc.2.2; omega, fun b3 H3 s3 hc3 => ?_⟩
      refine ⟨len_ok rfl, fun r4 hr4 => ?_⟩
      have s4 := Same.upd (o := .tup [.int (p.1 : Nat), .ref b3]) hr4
      have lacc : acc.length < sizeLine := by
        rw [Paired.length pr2, List.length_map, List.length_take]
        exact small1000 (by omega)
      have s34 := s3.trans s4
      refine ⟨s34 _ _ h2, lacc, ?_, upd_same, ?_⟩
      · intro b5 o5 e5
        rw [upd_ne (fun z => by rw [z, hA1] at e5; cases e5)]
        exact s34 _ _ (s2 _ _ e5)
      · rw [List.take_add_one, hp, Option.toList_some, List.map_append]
        have tk2 := TK.lst (o := .lst (acc ++ [.ref r4])) (s34 _ _ h2)
        exact Paired.app (Paired.imp (fun _ _ z => (z.tk s34.tk).tk tk2) pr2) (.cons (PairE.tk tk2 ⟨r4, b3, rfl, SqT.of upd_same, hc3.tk s4.tk⟩) .nil)
    · rintro acc H2 ⟨s2, h2, pr2⟩
      rw [lv, List.take_length] at pr2
      refine ⟨A1, acc, _, _, R.map fun p => wo n p.2, rfl, SqL.of h2, pr2, grd_maps hG (wo n), by rw [List.length_map]; omega, by rw [List.length_map]; omega, fun p hp => ?_, fun b R' H' s' hT' hG' => q b R' H' (s2.trans s') hT' hG'⟩
      obtain ⟨p', hp', rfl⟩ := List.mem_map.mp hp
      exact List.mem_map.mpr ⟨p', hp', rfl⟩
noncomputable def sp_filled (K : PySem.W.Frag) : Sp := fun vs H Q _ => ∃ (a : Addr) (m : Nat) (n : Int) (rb : V) (bb : List Key) (R : Strp) (g : Nat → Option Col), vs = [.ref a, .int (m : Nat), .int n, rb] ∧ BurE K H rb bb ∧ StrT K H a R ∧ IsStr g R ∧ R.length < 29 ∧ (∀ p ∈ R, GoodD p.2) ∧ ∀ b R' H', Same H H' → StrT K H' b R' → IsStr (fun i => if m.testBit i = true then (g i).map (filC n bb) else (g i).map (wo n)) R' → Q (.ref b) H'
theorem sc_filled : FnScope ["strips", "ground", "note", "burden", "pairs", "strip"] ["strips", "ground", "note", "burden"] (defScope s_filled) := ⟨rfl, rfl, rfl, by decide +kernel, rfl, by decide +kernel, by decide +kernel⟩
set_option maxHeartbeats 4000000 in
theorem ok_filled (T : Tx K mg "filled" s_filled ["strips", "ground", "note", "burden"]) (B : Bn mg) (d_strips_of : Df P w K mg base 5 "strips_of" ["pairs"] (sp_strips_of K)) (d_filled_in : Df P w K mg base 2 "filled_in" ["column", "note", "burden"] (sp_filled_in K)) (d_lifted_from : Df P w K mg base 1 "lifted_from" ["column", "number"] (sp_lifted_from K)) : Df P w K mg base 6 "filled" ["strips", "ground", "note", "burden"] (sp_filled K) := by
  refine T.df sc_filled (fun vs H Q E h => ?_) (fun f cdv A outer s H vs Q E hr h => ?_)
  · obtain ⟨a, m, n, rb, bb, R, g, rfl, hbb, hT, hG, hz, hgood, q⟩ := h
    rfl
  · obtain ⟨a, m, n, rb, bb, R, g, rfl, hbb, hT, hG, hz, hgood, q⟩ := h
    refine ⟨_, (pss_cons (ps_set (i := 4) sc_filled.nd rfl (by first | exact Or.inl rfl | exact Or.inr rfl) (pe_lst pa_nil))
      (pss_cons (ps_for PassesOwn.never rfl (pi_tup (pv 0)) (pg_name (i := 5) sc_filled.nd rfl (by first | exact Or.inl rfl | exact Or.inr rfl)) (pss_cons (ps_expr (pe_bm PySem.F.plainAttrs_list PySem.F.slot_list_append PySem.F.type_list_append mt_append (pv 4) (pa_cons (pe_tup (pa_cons (pe_op op_and (pe_ix ix_tup (pv 5) pe_int (fun _ _ => rfl)) (pv 1)) (pa_cons (pe_df d_filled_in hr (pa_cons (pe_ix ix_tup (pv 5) pe_int (fun _ _ => rfl)) (pa_cons (pv 2) (pa_cons (pv 3) pa_nil)))) pa_nil))) pa_nil)))
      (pss_one (ps_expr (pe_bm PySem.F.plainAttrs_list PySem.F.slot_list_append PySem.F.type_list_append mt_append (pv 4) (pa_cons (pe_tup (pa_cons (pe_op op_and (pe_ix ix_tup (pv 5) pe_int (fun _ _ => rfl)) (pe_un un_inv (pv 1))) (pa_cons (pe_df d_lifted_from hr (pa_cons (pe_ix ix_tup (pv 5) pe_int (fun _ _ => rfl)) (pa_cons (pv 2) pa_nil))) pa_nil))) pa_nil))))))
      (pss_one (ps_ret (pe_df d_strips_of hr (pa_cons (pv 4) pa_nil)))))), ?_⟩
    obtain ⟨vs, ha, pr⟩ := hT
    have lv : vs.length = R.length := Paired.length pr
    refine ⟨len_ok rfl, fun l hl => ?_⟩
    have s0 := Same.upd (o := .lst []) hl
    refine ⟨_, rfl, a, rfl, ⟨_, s0.tup ha⟩, for_tup (K := K) (a := a) (xs := vs) (fun i σ H2 => ∃ (o5 : Option V) (ys : List V), σ = [some (.ref a), some (.int (m : Nat)), some (.int n), some rb, some (.ref l), o5] ∧ Same H H2 ∧ H2 l = some (.lst ys) ∧ Paired (PairE K H2) ys ((R.take i).flatMap fun p => [(p.1 &&& m, filC n bb p.2), (dif p.1 m, wo n p.2)])) ⟨none, [], rfl, s0, upd_same, .nil⟩ (fun i σ H2 _ ⟨_, _, _, e, _⟩ => e.tup ha) ?_ ?_⟩
    · rintro i y σ H2 hi ⟨o5, ys, rfl, s2, h2, py⟩
      obtain ⟨p, hp, r1, b, rfl, hr1, hb1⟩ := paired_at pr hi
      have gc := hgood p (List.mem_of_getElem? hp)
      have lys : ys.length ≤ 58 := by
        rw [Paired.length py, len_two, List.length_take]
        omega
      have eand : V.int (Builtin.bitAnd ((p.1 : Nat) : Int) ((m : Nat) : Int)) = V.int ((p.1 &&& m : Nat) : Int) := congrArg V.int (bitAnd_nat _ _)
      have edif : V.int (Builtin.bitAnd ((p.1 : Nat) : Int) (Builtin.bitNot ((m : Nat) : Int))) = V.int ((dif p.1 m : Nat) : Int) := congrArg V.int (bitAnd_dif _ _)
      refine ⟨_, rfl, .inl ⟨rfl, _, SqL.of h2⟩, _, rfl, r1, _, _, _, rfl, rfl, s2.tup hr1, (atI_nat (j := 0) rfl), _, rfl, _, _, rfl, rfl, ?_⟩
      refine ⟨_, rfl, r1, _, _, _, rfl, rfl, s2.tup hr1, (atI_nat (j := 1) rfl), _, rfl, _, rfl, b, n, rb, bb, p.2, rfl, hbb.tk s2.tk, hb1.tk s2.tk, gc, fun b3 H3 s3 hc3 => ?_⟩
      refine ⟨len_ok rfl, fun r4 hr4 => ?_⟩
      have s4 := Same.upd (o := .tup [V.int (Builtin.bitAnd ((p.1 : Nat) : Int) ((m : Nat) : Int)), .ref b3]) hr4
      have s34 := s3.trans s4
      have h4 := s34 _ _ h2
      have tk4 := TK.lst (o := .lst (ys ++ [.ref r4])) h4
      refine ⟨l, _, _, rfl, rfl, h4, small1000 (by omega), ?_⟩
      have e4 : PairE K (upd (upd H3 r4 (.tup [V.int (Builtin.bitAnd ((p.1 : Nat) : Int) ((m : Nat) : Int)), .ref b3])) l (.lst (ys ++ [.ref r4]))) (.ref r4) (p.1 &&& m, filC n bb p.2) := by
        refine PairE.tk tk4 ⟨r4, b3, rfl, ?_, hc3.tk s4.tk⟩
        show SqT K _ r4 [V.int ((p.1 &&& m : Nat) : Int), .ref b3]
        rw [← eand]
        exact SqT.of upd_same
      have py4 := Paired.imp (fun _ _ z => PairE.tk tk4 (PairE.tk s34.tk z)) py
      have s5 : Same H (upd (upd H3 r4 (.tup [V.int (Builtin.bitAnd ((p.1 : Nat) : Int) ((m : Nat) : Int)), .ref b3])) l (.lst (ys ++ [.ref r4]))) := fun b5 o5 e5 => by
        rw [upd_ne (fun z => by rw [z, hl] at e5; cases e5)]
        exact s34 _ _ (s2 _ _ e5)
      have h5 : (upd (upd H3 r4 (.tup [V.int (Builtin.bitAnd ((p.1 : Nat) : Int) ((m : Nat) : Int)), .ref b3])) l (.lst (ys ++ [.ref r4]))) l = some (.lst (ys ++ [.ref r4])) := upd_same
      have q5 := Paired.app py4 (.cons e4 .nil)
      generalize (upd (upd H3 r4 (.tup [V.int (Builtin.bitAnd ((p.1 : Nat) : Int) ((m : Nat) : Int)), .ref b3])) l (.lst (ys ++ [.ref r4]))) = H5 at s5 h5 q5 ⊢
      refine ⟨_, rfl, .inl ⟨rfl, _, SqL.of h5⟩, _, rfl, r1, _, _, _, rfl, rfl, s5.tup hr1, (atI_nat (j := 0) rfl), _, rfl, _, rfl, _, _, rfl, rfl, ?_⟩
      refine ⟨_, rfl, r1, _, _, _, rfl, rfl, s5.tup hr1, (atI_nat (j := 1) rfl), _, rfl, b, n, p.2, rfl, hb1.tk s5.tk, gc.1, by have := gc.2.2; omega, fun b6 H6 s6 hc6 => ?_⟩
      refine ⟨len_ok rfl, fun r7 hr7 => ?_⟩
      have s7 := Same.upd (o := .tup [V.int (Builtin.bitAnd ((p.1 : Nat) : Int) (Builtin.bitNot ((m : Nat) : Int))), .ref b6]) hr7
      have s67 := s6.trans s7
      have h7 := s67 _ _ h5
      have tk7 := TK.lst (o := .lst (ys ++ [.ref r4] ++ [.ref r7])) h7
      refine ⟨l, _, _, rfl, rfl, h7, small1000 (by rw [List.length_append]; show _ + 1 ≤ 1000; omega), _, ys ++ [.ref r4] ++ [.ref r7], rfl, fun b8 o8 e8 => ?_, upd_same, ?_⟩
      · rw [upd_ne (fun z => by rw [z, hl] at e8; cases e8)]
        exact s67 _ _ (s5 _ _ e8)
      · rw [List.take_add_one, hp, Option.toList_some, List.flatMap_append]
        have e7 : PairE K (upd (upd H6 r7 (.tup [V.int (Builtin.bitAnd ((p.1 : Nat) : Int) (Builtin.bitNot ((m : Nat) : Int))), .ref b6])) l (.lst (ys ++ [.ref r4] ++ [.ref r7]))) (.ref r7) (dif p.1 m, wo n p.2) := by
          refine PairE.tk tk7 ⟨r7, b6, rfl, ?_, hc6.tk s7.tk⟩
          show SqT K _ r7 [V.int ((dif p.1 m : Nat) : Int), .ref b6]
          rw [← edif]
          exact SqT.of upd_same
        have := Paired.app (Paired.imp (fun _ _ z => PairE.tk tk7 (PairE.tk s67.tk z)) q5) (.cons e7 .nil)
        rw [List.append_assoc] at this
        rw [List.append_assoc]
        simpa using this
    · rintro σ H2 ⟨o5, ys, rfl, s2, h2, py⟩
      rw [lv, List.take_length] at py
      refine ⟨_, rfl, l, ys, _, _, (R.map fun p => filC n bb p.2) ++ R.map fun p => wo n p.2, rfl, SqL.of h2, py, grd_both hG m (filC n bb) (wo n), by rw [len_two]; omega, by rw [List.length_append, List.length_map, List.length_map]; omega, fun p hp => ?_, fun b R' H' s' hT' hG' => q b R' H' (s2.trans s') hT' hG'⟩
      obtain ⟨p', hp', z⟩ := List.mem_flatMap.mp hp
      simp only [List.mem_cons, List.not_mem_nil, or_false] at z
      rcases z with rfl | rfl
      · exact List.mem_append_left _ (List.mem_map.mpr ⟨p', hp', rfl⟩)
      · exact List.mem_append_right _ (List.mem_map.mpr ⟨p', hp', rfl⟩)
noncomputable def sp_waived (K : PySem.W.Frag) : Sp := fun vs H Q _ => ∃ (a : Addr) (n h : Int) (R : Strp) (g : Nat → Option Col), vs = [.ref a, .int n, .int h] ∧ StrT K H a R ∧ IsStr g R ∧ R.length < 60 ∧ (∀ p ∈ R, GoodD p.2) ∧ ∀ b R' H', Same H H' → StrT K H' b R' → IsStr (fun i => (g i).map (waiC n h)) R' → Q (.ref b) H'
theorem sc_waived : FnScope ["strips", "number", "ahead"] ["strips", "number", "ahead"] (defScope s_waived) := ⟨rfl, rfl, rfl, by decide +kernel, rfl, by decide +kernel, by decide +kernel⟩
set_option maxHeartbeats 4000000 in
theorem ok_waived (T : Tx K mg "waived" s_waived ["strips", "number", "ahead"]) (B : Bn mg) (d_strips_of : Df P w K mg base 5 "strips_of" ["pairs"] (sp_strips_of K)) (d_waived_in : Df P w K mg base 3 "waived_in" ["column", "number", "ahead"] (sp_waived_in K)) : Df P w K mg base 6 "waived" ["strips", "number", "ahead"] (sp_waived K) := by
  refine T.df sc_waived (fun vs H Q E h => ?_) (fun f cdv A outer s H vs Q E hr h => ?_)
  · obtain ⟨a, n, h, R, g, rfl, hT, hG, hz, hgood, q⟩ := h
    rfl
  · obtain ⟨a, n, h, R, g, rfl, hT, hG, hz, hgood, q⟩ := h
    refine ⟨_, (pss_one (ps_ret (pe_df d_strips_of hr (pa_cons (pe_lcomp ["strip"] [("number", 1), ("ahead", 2)] (clOf _ ["number", "ahead"]) rfl (by rfl) rfl (by decide +kernel) (by decide +kernel) (clOf_cells (by rfl)) (kin_of (by rfl)) (fun p hp => by
        cases hp with
        | head => exact ⟨rfl, rfl⟩
        | tail _ hp => exact (by
        cases hp with
        | head => exact ⟨rfl, rfl⟩
        | tail _ hp => exact (by cases hp))) (fun p hp => by
        cases hp with
        | head => exact rfl
        | tail _ hp => exact (by
        cases hp with
        | head => exact rfl
        | tail _ hp => exact (by cases hp))) (wk_name (by decide)) (pi_tup (pv 0)) (fun _ _ _ _ => pg_name (i := 0) (show (["strip", "number", "ahead"] : List Str).Nodup by decide +kernel) rfl (Or.inl rfl) (Or.inr rfl)) (fun _ _ _ _ => pifs_nil) (fun _ _ _ _ => (pe_tup (pa_cons (pe_ix (ix_tupK (K := K) rfl) (pv 0) pe_int (fun _ _ => rfl)) (pa_cons (pe_df d_waived_in hr (pa_cons (pe_ix (ix_tupK (K := K) rfl) (pv 0) pe_int (fun _ _ => rfl)) (pa_cons (pv 1) (pa_cons (pv 2) pa_nil)))) pa_nil))))) pa_nil)))), ?_⟩
    obtain ⟨vs, ha, pr⟩ := hT
    have lv : vs.length = R.length := Paired.length pr
    refine ⟨_, rfl, a, rfl, ⟨_, ha⟩, fun A1 hA1 => ?_⟩
    refine compT (K := K) (a := a) (xs := vs) (fun i acc H2 => Same H H2 ∧ H2 A1 = some (.lst acc) ∧ Paired (PairE K H2) acc ((R.take i).map fun p => (p.1, waiC n h p.2))) ⟨Same.upd hA1, upd_same, .nil⟩ (fun i acc H2 _ ⟨e, _⟩ => e.tup ha) ?_ ?_
    · rintro i y acc H2 hi ⟨s2, h2, pr2⟩
      obtain ⟨p, hp, r1, b, rfl, h1, hb⟩ := paired_at pr hi
      have gc := hgood p (List.mem_of_getElem? hp)
      have h12 := s2.tup h1
      refine ⟨_, rfl, r1, _, _, _, rfl, rfl, h12, (atI_nat (j := 0) rfl), ?_⟩
      refine ⟨_, rfl, r1, _, _, _, rfl, rfl, h12, (atI_nat (j := 1) rfl), _, rfl, _, rfl, b, n, h, p.2, rfl, hb.tk s2.tk, gc, fun b3 H3 s3 hc3 => ?_⟩
      refine ⟨len_ok rfl, fun r4 hr4 => ?_⟩
      have s4 := Same.upd (o := .tup [.int (p.1 : Nat), .ref b3]) hr4
      have lacc : acc.length < sizeLine := by
        rw [Paired.length pr2, List.length_map, List.length_take]
        exact small1000 (by omega)
      have s34 := s3.trans s4
      refine ⟨s34 _ _ h2, lacc, ?_, upd_same, ?_⟩
      · intro b5 o5 e5
        rw [upd_ne (fun z => by rw [z, hA1] at e5; cases e5)]
        exact s34 _ _ (s2 _ _ e5)
      · rw [List.take_add_one, hp, Option.toList_some, List.map_append]
        have tk2 := TK.lst (o := .lst (acc ++ [.ref r4])) (s34 _ _ h2)
        exact Paired.app (Paired.imp (fun _ _ z => (z.tk s34.tk).tk tk2) pr2) (.cons (PairE.tk tk2 ⟨r4, b3, rfl, SqT.of upd_same, hc3.tk s4.tk⟩) .nil)
    · rintro acc H2 ⟨s2, h2, pr2⟩
      rw [lv, List.take_length] at pr2
      refine ⟨A1, acc, _, _, R.map fun p => waiC n h p.2, rfl, SqL.of h2, pr2, grd_maps hG (waiC n h), by rw [List.length_map]; omega, by rw [List.length_map]; omega, fun p hp => ?_, fun b R' H' s' hT' hG' => q b R' H' (s2.trans s') hT' hG'⟩
      obtain ⟨p', hp', rfl⟩ := List.mem_map.mp hp
      exact List.mem_map.mpr ⟨p', hp', rfl⟩
noncomputable def sp_law_deed (K : PySem.W.Frag) : Sp := fun vs H Q _ => ∃ (d aS lx : Addr) (xs : List Int) (rb : V) (bb : List Key) (st : Int) (kvs : List (Key × V)) (g : Nat → Option Col) (R : Strp) (rs : List (List Key)) (ks : List Nat) (k : Nat), vs = [.ref d, .ref aS, .ref lx, rb, .int st] ∧ H d = some (.dK kvs) ∧ GD K H kvs g ∧ StrT K H aS R ∧ IsStr g R ∧ H lx = some (.lst (xs.map V.int)) ∧ xs.length = 4 ∧ (∀ x ∈ xs, 0 ≤ x ∧ x < 2147483647) ∧ BurE K H rb bb ∧ rs[k]? = some bb ∧ rs.length ≤ 59 ∧ (∀ r ∈ rs, IsBur r) ∧ (rs.map numR).Nodup ∧ (∀ i c, g i = some c → OfP rs k c) ∧ ks.Nodup ∧ (∀ k ∈ ks, k < 64) ∧ ks.length ≤ 4 ∧ kvs.map (·.1) = ks.map (fun k : Nat => (.inl (k : Int) : Key)) ∧ (∀ i, (g i).isSome = true ↔ i ∈ ks) ∧ ∀ (b : Addr) (R' : Strp) (g' : Nat → Option Col) (kvs' : List (Key × V)) (H' : Hp), SameX d H H' → H' d = some (.dK kvs') → kvs'.map (·.1) = kvs.map (·.1) → GD K H' kvs' g' → (∀ i, (g' i).isSome = (g i).isSome) → (∀ i c, g' i = some c → OfP rs (k + 1) c) → StrT K H' b R' → IsStr g' R' → Q (.ref b) H'
theorem sc_law_deed : FnScope ["_law_ground", "_law_strips_here", "_law_xs", "_law_burden", "_law_stranger", "_law_known", "_law_mask_here", "_law_one", "_law_other", "_law_way", "_law_spot", "_law_here"] ["_law_ground", "_law_strips_here", "_law_xs", "_law_burden", "_law_stranger"] (defScope s_law_deed) := ⟨rfl, rfl, rfl, by decide +kernel, rfl, by decide +kernel, by decide +kernel⟩
set_option maxHeartbeats 4000000 in
theorem ok_law_deed (T : Tx K mg "_law_deed" s_law_deed ["_law_ground", "_law_strips_here", "_law_xs", "_law_burden", "_law_stranger"]) (B : Bn mg) (d_law_all : Df P w K mg base 1 "_law_all" ["_law_columns"] (sp_law_all K)) (d_law_mask : Df P w K mg base 2 "_law_mask" ["_law_cell", "_law_spots_here"] (sp_law_mask K)) (d_law_number : Df P w K mg base 1 "_law_number" ["_law_number_here", "_law_known", "_law_stranger"] (sp_law_number K)) (d_together : Df P w K mg base 6 "together" ["one", "other"] (sp_together K)) (d_law_has : Df P w K mg base 1 "_law_has" ["_law_cells", "_law_cell"] (sp_law_has K)) (D_laid : DfD P w K mg base 6 "laid" ["strips", "ground", "burden", "told"] (sp_laid K) [.none]) (d_lifted : Df P w K mg base 6 "lifted" ["strips", "number"] (sp_lifted K)) (d_filled : Df P w K mg base 6 "filled" ["strips", "ground", "note", "burden"] (sp_filled K)) (d_waived : Df P w K mg base 6 "waived" ["strips", "number", "ahead"] (sp_waived K)) (d_kept_on : Df P w K mg base 6 "kept_on" ["strips", "cells"] (sp_kept_on K)) (d_law_behind : Df P w K mg base 1 "_law_behind" ["_law_column", "_law_burden", "_law_told"] (sp_law_behind K)) (d_law_filled : Df P w K mg base 1 "_law_filled" ["_law_column", "_law_number_here", "_law_burden", "_law_within"] (sp_law_filled K)) (d_law_waived : Df P w K mg base 1 "_law_waived" ["_law_column", "_law_number_here", "_law_ahead"] (sp_law_waived K)) : Df P w K mg base 7 "_law_deed" ["_law_ground", "_law_strips_here", "_law_xs", "_law_burden", "_law_stranger"] (sp_law_deed K) := by
  have d_laid := D_laid.df
  refine T.df sc_law_deed (fun vs H Q E h => ?_) (fun f cdv A outer s H vs Q E hr h => ?_)
  · obtain ⟨d, aS, lx, xs, rb, bb, st, kvs, g, R, rs, ks, k, rfl, hd, hg, hT, hG, hlx, lxs, hxb, hbb, ebb, hrl, hib, hnd, hgO, hkn, hks, hkl, hkeys, hgk, q⟩ := h
    rfl
  · obtain ⟨d, aS, lx, xs, rb, bb, st, kvs, g, R, rs, ks, k, rfl, hd, hg, hT, hG, hlx, lxs, hxb, hbb, ebb, hrl, hib, hnd, hgO, hkn, hks, hkl, hkeys, hgk, q⟩ := h
    have hu := hr.units
    refine ⟨_, (pss_cons (ps_set (i := 5) sc_law_deed.nd rfl (by first | exact Or.inl rfl | exact Or.inr rfl) (pe_df d_law_all hr (pa_cons (pe_lcomp ["_law_spot"] [("_law_ground", 0)] (clOf _ ["_law_ground"]) rfl (by rfl) rfl (by decide +kernel) (by decide +kernel) (clOf_cells (by rfl)) (kin_of (by rfl)) (fun p hp => by
        cases hp with
        | head => exact ⟨rfl, rfl⟩
        | tail _ hp => exact (by cases hp)) (fun p hp => by
        cases hp with
        | head => exact rfl
        | tail _ hp => exact (by cases hp)) (wk_name (by decide)) (pi_dict (pv 0)) (fun _ _ _ _ => pg_name (i := 0) (show (["_law_spot", "_law_ground"] : List Str).Nodup by decide +kernel) rfl (Or.inl rfl) (Or.inr rfl)) (fun _ _ _ _ => pifs_nil) (fun _ _ _ _ => (pe_dget (hu_of hr) (pv 1) (pv 0) (fun _ _ => rfl)))) pa_nil)))
      (pss_cons (ps_thaw (ps_set (i := 6) sc_law_deed.nd rfl (by first | exact Or.inl rfl | exact Or.inr rfl) (pe_df d_law_mask hr (pa_cons (pe_ix ix_list (pv 2) pe_int (fun _ _ => rfl)) (pa_cons (pe_lcomp ["_law_spot"] [] (clOf _ []) rfl (by rfl) rfl (by decide +kernel) (by decide +kernel) (clOf_cells (by rfl)) (kin_of (by rfl)) (fun p hp => by cases hp) (fun p hp => by cases hp) (wk_name (by decide)) (pi_dict (pv 0)) (fun _ _ _ _ => pg_name (i := 0) (show (["_law_spot"] : List Str).Nodup by decide +kernel) rfl (Or.inl rfl) (Or.inr rfl)) (fun _ _ _ _ => pifs_nil) (fun _ _ _ _ => (pv 0))) pa_nil)))))
      (pss_cons (ps_set (i := 7) sc_law_deed.nd rfl (by first | exact Or.inl rfl | exact Or.inr rfl) (pe_df d_law_number hr (pa_cons (pe_ix ix_list (pv 2) pe_int (fun _ _ => rfl)) (pa_cons (pv 5) (pa_cons (pv 4) pa_nil)))))
      (pss_cons (ps_set (i := 8) sc_law_deed.nd rfl (by first | exact Or.inl rfl | exact Or.inr rfl) (pe_df d_law_number hr (pa_cons (pe_ix ix_list (pv 2) pe_int (fun _ _ => rfl)) (pa_cons (pv 5) (pa_cons (pv 4) pa_nil)))))
      (pss_cons (ps_set (i := 9) sc_law_deed.nd rfl (by first | exact Or.inl rfl | exact Or.inr rfl) (pe_op op_mod (pe_op op_fdiv (pe_ix ix_list (pv 2) pe_int (fun _ _ => rfl)) pe_int) pe_int))
      (pss_cons (ps_for PassesOwn.never rfl (pi_list (pe_callTy (call_listD rfl) (by rfl) B.list boot_list (pa_cons (pv 0) pa_nil))) (pg_name (i := 10) sc_law_deed.nd rfl (by first | exact Or.inl rfl | exact Or.inr rfl)) (pss_cons (ps_set (i := 11) sc_law_deed.nd rfl (by first | exact Or.inl rfl | exact Or.inr rfl) (pe_df d_law_has hr (pa_cons (pv 6) (pa_cons (pv 10) pa_nil))))
      (pss_one (ps_if ((pw_and (pt_cmpR op_lt (pv 9) pe_int (nomark _)) (pw_and1 (pt_val (pv 11)))).pt) (pss_one (ps_dput (hu_of hr) (pv 0) (pv 10) (pe_op op_catA (pe_dget (hu_of hr) (pv 0) (pv 10) (fun _ _ => rfl)) (pe_tup (pa_cons (pv 3) pa_nil))) rfl)) (pss_one (ps_if ((pw_and (pt_cmpR op_eq (pv 9) pe_int (nomark _)) (pw_and1 (pt_val (pv 11)))).pt) (pss_one (ps_dput (hu_of hr) (pv 0) (pv 10) (pe_df d_law_behind hr (pa_cons (pe_dget (hu_of hr) (pv 0) (pv 10) (fun _ _ => rfl)) (pa_cons (pv 3) (pa_cons (pe_tup (pa_cons (pv 7) (pa_cons (pv 8) pa_nil))) pa_nil)))) rfl)) (pss_one (ps_if (pt_cmpR op_eq (pv 9) pe_int (nomark _)) (pss_one (ps_dput (hu_of hr) (pv 0) (pv 10) (pe_df d_law_filled hr (pa_cons (pe_dget (hu_of hr) (pv 0) (pv 10) (fun _ _ => rfl)) (pa_cons (pv 7) (pa_cons (pv 3) (pa_cons pe_bl pa_nil))))) rfl)) (pss_one (ps_if (pt_cmpR op_eq (pv 9) pe_int (nomark _)) (pss_one (ps_dput (hu_of hr) (pv 0) (pv 10) (pe_df d_law_filled hr (pa_cons (pe_dget (hu_of hr) (pv 0) (pv 10) (fun _ _ => rfl)) (pa_cons (pv 7) (pa_cons (pv 3) (pa_cons (pv 11) pa_nil))))) rfl)) (pss_one (ps_if ((pw_or (pt_cmpR op_eq (pv 9) pe_int (nomark _)) (pw_or1 (pt_cmpR op_eq (pv 9) pe_int (nomark _)))).pt) (pss_one (ps_dput (hu_of hr) (pv 0) (pv 10) (pe_df d_law_waived hr (pa_cons (pe_dget (hu_of hr) (pv 0) (pv 10) (fun _ _ => rfl)) (pa_cons (pv 7) (pa_cons (pv 8) pa_nil)))) rfl)) pss_nil))))))))))))
      (pss_cons (ps_if (pt_cmpR op_lt (pv 9) pe_int (nomark _)) (pss_one (ps_ret (pe_dfD (dvs := [V.non]) D_laid hr (.cons rfl .nil) (pa_cons (pv 1) (pa_cons (pv 6) (pa_cons (pv 3) pa_nil)))))) pss_nil)
      (pss_cons (ps_if (pt_cmpR op_eq (pv 9) pe_int (nomark _)) (pss_one (ps_ret (pe_df d_laid hr (pa_cons (pv 1) (pa_cons (pv 6) (pa_cons (pv 3) (pa_cons (pe_tup (pa_cons (pv 7) (pa_cons (pv 8) pa_nil))) pa_nil))))))) pss_nil)
      (pss_cons (ps_if (pt_cmpR op_eq (pv 9) pe_int (nomark _)) (pss_one (ps_ret (pe_df d_lifted hr (pa_cons (pv 1) (pa_cons (pv 7) pa_nil))))) pss_nil)
      (pss_cons (ps_if (pt_cmpR op_eq (pv 9) pe_int (nomark _)) (pss_one (ps_ret (pe_df d_filled hr (pa_cons (pv 1) (pa_cons (pv 6) (pa_cons (pv 7) (pa_cons (pv 3) pa_nil))))))) pss_nil)
      (pss_cons (ps_if (pt_cmpR op_lt (pv 9) pe_int (nomark _)) (pss_one (ps_ret (pe_df d_waived hr (pa_cons (pv 1) (pa_cons (pv 7) (pa_cons (pv 8) pa_nil)))))) pss_nil)
      (pss_one (ps_ret (pe_df d_together hr (pa_cons (pe_df d_kept_on hr (pa_cons (pv 1) (pa_cons (pe_op op_sub (pe_op op_sub (pe_op op_pow pe_int pe_int) pe_int) (pv 6)) pa_nil))) (pa_cons (pe_df d_kept_on hr (pa_cons (pv 1) (pa_cons (pv 6) pa_nil))) pa_nil)))))))))))))))), ?_⟩
    have lk : kvs.length = ks.length := by
      have := congrArg List.length hkeys
      simpa using this
    have kl : k < rs.length := (List.getElem?_eq_some_iff.mp ebb).1
    have nlx : lx ≠ d := fun z => by rw [z, hd] at hlx; cases hlx
    obtain ⟨x0, e0, x00, x01⟩ := at_nums (i := 0) (by decide) (by omega) hxb
    obtain ⟨x1, e1, x10, x11⟩ := at_nums (i := 1) (by decide) (by omega) hxb
    obtain ⟨x2, e2, x20, x21⟩ := at_nums (i := 2) (by decide) (by omega) hxb
    obtain ⟨x3, e3, x30, x31⟩ := at_nums (i := 3) (by decide) (by omega) hxb
    have keyAt : ∀ (i : Nat) (kk : Key) (v : V), kvs[i]? = some (kk, v) → ∃ k : Nat, ks[i]? = some k ∧ kk = .inl (k : Int) := fun i kk v h => by
      have e : (kvs.map (·.1))[i]? = some kk := by rw [List.getElem?_map, h]; rfl
      rw [hkeys, List.getElem?_map] at e
      cases e' : ks[i]? with
      | none => rw [e'] at e; cases e
      | some k => rw [e'] at e; exact ⟨k, rfl, (Option.some.inj e).symm⟩
    have gkC : ∀ k ∈ ks, ∃ c, g k = some c := fun k hk => by
      have := (hgk k).mpr hk
      cases e : g k with
      | none => rw [e] at this; cases this
      | some c => exact ⟨c, rfl⟩
    have rowsIn : ∀ i c, g i = some c → ∀ r ∈ c, r ∈ rs := fun i c e r hr => List.mem_of_mem_take ((hgO i c e).1 r hr)
    refine ⟨_, rfl, d, kvs, rfl, .inl ⟨hd, fun o A1 hA1 => ?_⟩⟩
    have sx1 : SameX d H (upd H d (.frz o (.dK kvs))) := SameX.upd
    have hf1 : (upd H d (.frz o (.dK kvs))) d = some (.frz o (.dK kvs)) := upd_same
    have tk1 := sx1.tk hd
    have hg1 := hg.tk tk1
    generalize (upd H d (.frz o (.dK kvs))) = H1 at sx1 hf1 tk1 hg1 hA1 ⊢
    refine compD (d := d) (o := o) (kvs := kvs) (fun i acc H2 => H2 = upd H1 A1 (.lst acc) ∧ ∃ Cs : List Col, Paired (ColE K H1) acc Cs ∧ Cs.length = i ∧ ∀ c ∈ Cs, ∃ j, g j = some c) ⟨rfl, [], .nil, rfl, fun _ z => nomatch z⟩ (fun i acc H2 _ ⟨e, _⟩ => by rw [e]; exact (Same.upd hA1) _ _ hf1) ?_ ?_
    · rintro i kk v acc H2 hi ⟨rfl, Cs, pC, lC, hC⟩
      obtain ⟨kn, hkn', rfl⟩ := keyAt i kk v hi
      obtain ⟨c, hc⟩ := gkC kn (List.mem_of_getElem? hkn')
      obtain ⟨b, eb, hcb⟩ : ∃ b, valV kvs (.inl (kn : Int)) = some (.ref b) ∧ ColV K H1 b c := by
        rcases hg1 kn with ⟨_, z⟩ | ⟨b, c', z1, z2, z3⟩
        · rw [hc] at z; cases z
        · rw [hc] at z2; cases z2; exact ⟨b, z1, z3⟩
      have il : i < kvs.length := (List.getElem?_eq_some_iff.mp hi).1
      have dg : DGet (upd H1 A1 (.lst acc)) d (.int (kn : Nat)) (some (.ref b)) := by
        rw [← eb]
        exact .inl ⟨kvs, .inl (kn : Int), .inr ⟨o, (Same.upd hA1) _ _ hf1⟩, rfl, rfl⟩
      refine ⟨_, rfl, _, rfl, d, _, rfl, dg, upd_same, small1000 (by rw [Paired.length pC]; omega), by rw [upd_upd], Cs ++ [c], Paired.app pC (.cons ⟨b, rfl, hcb⟩ .nil), by rw [List.length_append, lC]; rfl, fun c' hc' => ?_⟩
      rcases List.mem_append.mp hc' with z | z
      · exact hC c' z
      · rw [List.mem_singleton.mp z]; exact ⟨kn, hc⟩
    rintro acc H2 ⟨rfl, Cs, pC, lC, hC⟩
    have sA1 := Same.upd (o := .lst acc) hA1
    refine ⟨A1, acc, Cs, rs, rfl, SqL.of upd_same, Paired.imp (fun _ _ z => ColE.tk sA1.tk z) pC, fun c hc r hr => ?_, hrl, hib, hnd, fun aK T H3 s3 hB hV => ?_⟩
    · obtain ⟨j, e⟩ := hC c hc
      exact rowsIn j c e r hr
    have rowsT : ∀ r ∈ T, IsBur r := fun r hr => by
      obtain ⟨c, hc, hr'⟩ := (hB.mem r).mp hr
      obtain ⟨j, e⟩ := hC c hc
      exact hib r (rowsIn j c e r hr')
    have s13 := sA1.trans s3
    have hf3 := s13 _ _ hf1
    have hlx3 := s13 _ _ (sx1 _ _ nlx hlx)
    refine ⟨_, rfl, lx, _, _, _, rfl, rfl, SqL.of hlx3, e1, ?_⟩
    refine ⟨_, rfl, d, kvs, rfl, .inr ⟨o, hf3, fun A2 hA2 => ?_⟩⟩
    refine compD (d := d) (o := o) (kvs := kvs) (fun i acc H2 => H2 = upd H3 A2 (.lst acc) ∧ acc = NV (ks.take i)) ⟨rfl, rfl⟩ (fun i acc H2 _ ⟨e, _⟩ => by rw [e]; exact (Same.upd hA2) _ _ hf3) ?_ ?_
    · rintro i kk v acc H2 hi ⟨rfl, rfl⟩
      obtain ⟨kn, hkn', rfl⟩ := keyAt i kk v hi
      refine ⟨_, rfl, upd_same, small1000 (by rw [List.length_map, List.length_take]; omega), by rw [upd_upd], ?_⟩
      rw [List.take_add_one, hkn', Option.toList_some, NV_app]
      rfl
    rintro acc2 H2 ⟨rfl, rfl⟩
    rw [lk, List.take_length]
    have sA2 := Same.upd (o := .lst (NV ks)) hA2
    refine ⟨x1, A2, ks, rfl, SqL.of upd_same, hks, fun m H4 hm s4 => ?_⟩
    have s34 := sA2.trans s4
    have hf4 := s34 _ _ hf3
    refine ⟨d, o, kvs, hf4, fun o' u e => ?_, ?_⟩
    · have e' : H d = some (.frz o' u) := e
      rw [hd] at e'
      cases e'
    have tk45 := TK.frz (o := .dK kvs) hf4
    have sx5 : SameX d H (upd H4 d (.dK kvs)) := fun b u nb e => by
      rw [upd_ne nb]
      exact s34 _ _ (s13 _ _ (sx1 _ _ nb e))
    have hd5 : (upd H4 d (.dK kvs)) d = some (.dK kvs) := upd_same
    have hV5 := (hV.tk s34.tk).tk tk45
    generalize (upd H4 d (.dK kvs)) = H5 at tk45 sx5 hd5 hV5 ⊢
    have tk5 := sx5.tk hd
    have hlx5 := sx5 _ _ nlx hlx
    refine ⟨_, rfl, lx, _, _, _, rfl, rfl, SqL.of hlx5, e2, _, rfl, _, rfl, x2, aK, T, st, rfl, hV5, rowsT, fun n => ?_⟩
    refine ⟨_, rfl, lx, _, _, _, rfl, rfl, SqL.of hlx5, e3, _, rfl, _, rfl, x3, aK, T, st, rfl, hV5, rowsT, fun h => ?_⟩
    refine ⟨_, rfl, lx, _, _, _, rfl, rfl, SqL.of hlx5, e0, _, _, rfl, rfl, ⟨by decide, by decide⟩, _, _, rfl, rfl, (by show (0 : Int) < _; decide), ?_⟩
    have w0 := Int.emod_nonneg (x0 / 5) (show (8 : Int) ≠ 0 by decide)
    have w8 := Int.emod_lt_of_pos (x0 / 5) (show (0 : Int) < 8 by decide)
    dsimp only
    generalize x0 / 5 % 8 = W at w0 w8 ⊢
    have ekv : (kvs.map fun q => kV q.1) = NV ks := by
      have e : (kvs.map fun q => kV q.1) = (kvs.map (·.1)).map kV := by rw [List.map_map]; rfl
      rw [e, hkeys, List.map_map]
      rfl
    refine ⟨_, rfl, d, kvs, rfl, .inl hd5, fun l hl => ?_⟩
    have sL := Same.upd (o := .lst (kvs.map fun q => kV q.1)) hl
    have kL : (upd H5 l (.lst (kvs.map fun q => kV q.1))) l = some (.lst (NV ks)) := by rw [upd_same, ekv]
    have hd5' := sL _ _ hd5
    have nld : l ≠ d := fun z => by rw [z, hd5] at hl; cases hl
    have sx5' : SameX d H (upd H5 l (.lst (kvs.map fun q => kV q.1))) := sx5.trans sL.x
    generalize (upd H5 l (.lst (kvs.map fun q => kV q.1))) = H5' at sL kL hd5' sx5' ⊢
    have tk5' := sx5'.tk hd
    refine ⟨l, rfl, ⟨_, SqL.of kL⟩, for_list (K := K) (a := l) (xs := NV ks) (fun j σ H6 => ∃ (o10 o11 : Option V) (kv6 : List (Key × V)), σ = [some (.ref d), some (.ref aS), some (.ref lx), some rb, some (.int st), some (.ref aK), some (.int (m : Nat)), some (.int n), some (.int h), some (.int W), o10, o11] ∧ SameX d H5' H6 ∧ H6 d = some (.dK kv6) ∧ GD K H6 kv6 (gMap g (FW W m n h bb) (ks.take j)) ∧ kv6.map (·.1) = kvs.map (·.1)) ⟨none, none, kvs, rfl, SameX.refl d H5', hd5', by rw [List.take_zero, gMap_nil]; exact hg.tk tk5', rfl⟩ (fun j σ H6 _ ⟨_, _, _, _, e, _⟩ => SqL.of (e _ _ nld kL)) ?_ ?_⟩
    · rintro j y σ H6 hj ⟨o10, o11, kv6, rfl, sx6, hd6, hg6, hkeys6⟩
      obtain ⟨kk, hkk, rfl⟩ : ∃ kk, ks[j]? = some kk ∧ y = .int (kk : Nat) := by
        rw [List.getElem?_map] at hj
        cases e : ks[j]? with
        | none => rw [e] at hj; cases hj
        | some kk => rw [e] at hj; cases hj; exact ⟨kk, rfl, rfl⟩
      have hk64 := hks kk (List.mem_of_getElem? hkk)
      have tkk : ks.take (j + 1) = ks.take j ++ [kk] := by rw [List.take_add_one, hkk]; rfl
      have nk : ¬ kk ∈ ks.take j := fun z => by
        have nd' := hkn
        rw [← List.take_append_drop (j + 1) ks, tkk] at nd'
        have := (List.nodup_append.mp (List.nodup_append.mp nd').1).2.2 kk z kk (List.mem_singleton.mpr rfl)
        exact this rfl
      have l6 : kv6.length ≤ 4 := by
        have := congrArg List.length hkeys6
        rw [List.length_map, List.length_map] at this
        omega
      obtain ⟨c, hc⟩ := gkC kk (List.mem_of_getElem? hkk)
      have gd := (hgO kk c hc).goodD hib (by omega)
      have oc := hgO kk c hc
      obtain ⟨b, eb, hcb⟩ : ∃ b, valV kv6 (.inl (kk : Int)) = some (.ref b) ∧ ColV K H6 b c := by
        have e0 := gMap_not (g := g) (F := (FW W m n h bb)) nk
        rcases hg6 kk with ⟨_, z⟩ | ⟨b, c', z1, z2, z3⟩
        · rw [e0, hc] at z; cases z
        · rw [e0, hc] at z2; cases z2; exact ⟨b, z1, z3⟩
      have dg : DGet H6 d (.int (kk : Nat)) (some (.ref b)) := by
        have dg := DGet.k (k := .inl (kk : Int)) hd6
        rw [eb] at dg
        exact dg
      have bur6 := (hbb.tk tk5').tk (sx6.tk hd5')
      have gl := gd.2.2
      refine ⟨_, rfl, _, rfl, m, kk, rfl, by omega, ?_⟩
      refine ⟨_, rfl, _, _, rfl, rfl, _, rfl, ?_⟩
      refine ite2 (fun h1 => ?_) (fun h1 => ?_)
      · have h1' : W < 2 := of_decide_eq_true h1
        refine ⟨_, rfl, _, rfl, ?_⟩
        refine ite2 (fun h2 => ?_) (fun h2 => ?_)
        · obtain ⟨xs5, hx5, pr5⟩ := hcb.bur
          have lx5 : xs5.length = c.length := Paired.length pr5
          refine ⟨_, rfl, _, rfl, d, _, rfl, dg, _, rfl, len_ok rfl, fun r3 hr3 => ?_⟩
          have s9 := Same.upd (o := .tup [rb]) hr3
          refine ⟨b, r3, _, _, rfl, rfl, s9.tup hx5, SqT.of upd_same, Nat.le_of_lt (small1000 (by show _ + 1 ≤ 1000; omega)), fun r7 H7 s10 h10 => ?_⟩
          have s7 := s9.trans s10
          have hc7 : ColV K H7 r7 (layC none bb c) := by
            rw [layC_none]
            exact ColV.of h10 (Paired.app (Paired.imp (fun _ _ z => BurE.tk s7.tk z) pr5) (.cons (bur6.tk s7.tk) .nil))
          have hd7 := s7 _ _ hd6
          have tkd := TK.dk (o := .dK (putK kv6 (.inl (kk : Int)) (.ref r7))) hd7
          refine ⟨_, rfl, _, rfl, d, _, rfl, DPut.k (k := .inl (kk : Int)) hd7 (small1000 (by omega)), ?_⟩
          refine ⟨_, _, _, rfl, fun x u nx e => ?_, upd_same, ?_, ?_⟩
          · rw [upd_ne nx]
            exact s7 _ _ (sx6 _ _ nx e)
          · rw [tkk, gMap_put hc, show (FW W m n h bb) kk c = _ from by unfold FW; rw [if_pos h1', if_pos h2]]
            exact ((hg6.tk s7.tk).tk tkd).put (hc7.tk tkd)
          · rw [putK_same eb]
            exact hkeys6
        · have hF : (FW W m n h bb) kk c = c := by unfold FW; rw [if_pos h1', if_neg h2]
          refine ⟨_, rfl, rfl, _, rfl, ite2 (fun z => absurd (veq.mp z) (by omega)) (fun _ => ?_)⟩
          refine ⟨_, rfl, rfl, _, rfl, ite2 (fun z => absurd (veq.mp z) (by omega)) (fun _ => ?_)⟩
          refine ⟨_, rfl, rfl, _, rfl, ite2 (fun z => absurd (veq.mp z) (by omega)) (fun _ => ?_)⟩
          refine ⟨_, rfl, rfl, _, rfl, ite2 (fun z => absurd (veq.mp z) (by omega)) (fun _ => ?_)⟩
          refine ⟨_, rfl, rfl, _, rfl, ite2 (fun z => absurd (veq.mp z) (by omega)) (fun _ => ?_)⟩
          refine ⟨_, _, kv6, rfl, sx6, hd6, ?_, hkeys6⟩
          rw [tkk, gMap_same nk hc hF]
          exact hg6
      have h1' : ¬ W < 2 := fun z => h1 (decide_eq_true z)
      refine ⟨_, rfl, rfl, _, rfl, ?_⟩
      refine ite2 (fun h2 => ?_) (fun h2 => ?_)
      · have h2' : W = 2 := veq.mp h2
        refine ⟨_, rfl, _, rfl, ?_⟩
        refine ite2 (fun h3 => ?_) (fun h3 => ?_)
        · refine ⟨_, rfl, _, rfl, d, _, rfl, dg, _, rfl, _, rfl, _, rfl, len_ok rfl, fun t ht => ?_⟩
          have s9 := Same.upd (o := .tup [.int n, .int h]) ht
          refine ⟨b, t, rb, bb, [n, h], c, rfl, bur6.tk s9.tk, hcb.tk s9.tk, gd.1, by omega, SqT.of upd_same, fun r7 H7 s10 hc7 => ?_⟩
          have s7 := s9.trans s10
          have hd7 := s7 _ _ hd6
          have tkd := TK.dk (o := .dK (putK kv6 (.inl (kk : Int)) (.ref r7))) hd7
          refine ⟨_, rfl, _, rfl, d, _, rfl, DPut.k (k := .inl (kk : Int)) hd7 (small1000 (by omega)), ?_⟩
          refine ⟨_, _, _, rfl, fun x u nx e => ?_, upd_same, ?_, ?_⟩
          · rw [upd_ne nx]
            exact s7 _ _ (sx6 _ _ nx e)
          · rw [tkk, gMap_put hc, show (FW W m n h bb) kk c = _ from by unfold FW; rw [if_neg h1', if_pos h2', if_pos h3]]
            exact ((hg6.tk s7.tk).tk tkd).put (hc7.tk tkd)
          · rw [putK_same eb]
            exact hkeys6
        · have hF : (FW W m n h bb) kk c = c := by unfold FW; rw [if_neg h1', if_pos h2', if_neg h3]
          refine ⟨_, rfl, rfl, _, rfl, ite2 (fun z => absurd (veq.mp z) (by omega)) (fun _ => ?_)⟩
          refine ⟨_, rfl, rfl, _, rfl, ite2 (fun z => absurd (veq.mp z) (by omega)) (fun _ => ?_)⟩
          refine ⟨_, rfl, rfl, _, rfl, ite2 (fun z => absurd (veq.mp z) (by omega)) (fun _ => ?_)⟩
          refine ⟨_, rfl, rfl, _, rfl, ite2 (fun z => absurd (veq.mp z) (by omega)) (fun _ => ?_)⟩
          refine ⟨_, _, kv6, rfl, sx6, hd6, ?_, hkeys6⟩
          rw [tkk, gMap_same nk hc hF]
          exact hg6
      have h2' : ¬ W = 2 := fun z => h2 (veq.mpr z)
      refine ⟨_, rfl, rfl, _, rfl, ?_⟩
      refine ite2 (fun h3 => ?_) (fun h3 => ?_)
      · have h3' : W = 3 := veq.mp h3
        refine ⟨_, rfl, _, rfl, d, _, rfl, dg, _, rfl, _, rfl, b, n, rb, bb, false, c, rfl, bur6, hcb, gd.1, by omega, fun r7 H7 s7 hc7 => ?_⟩
        rw [if_neg (by decide)] at hc7
        have hd7 := s7 _ _ hd6
        have tkd := TK.dk (o := .dK (putK kv6 (.inl (kk : Int)) (.ref r7))) hd7
        refine ⟨_, rfl, _, rfl, d, _, rfl, DPut.k (k := .inl (kk : Int)) hd7 (small1000 (by omega)), ?_⟩
        refine ⟨_, _, _, rfl, fun x u nx e => ?_, upd_same, ?_, ?_⟩
        · rw [upd_ne nx]
          exact s7 _ _ (sx6 _ _ nx e)
        · rw [tkk, gMap_put hc, show (FW W m n h bb) kk c = _ from by unfold FW; rw [if_neg h1', if_neg h2', if_pos h3']]
          exact ((hg6.tk s7.tk).tk tkd).put (hc7.tk tkd)
        · rw [putK_same eb]
          exact hkeys6
      have h3' : ¬ W = 3 := fun z => h3 (veq.mpr z)
      refine ⟨_, rfl, rfl, _, rfl, ?_⟩
      refine ite2 (fun h4 => ?_) (fun h4 => ?_)
      · have h4' : W = 4 := veq.mp h4
        refine ⟨_, rfl, _, rfl, d, _, rfl, dg, _, rfl, _, rfl, _, rfl, b, n, rb, bb, m.testBit kk, c, rfl, bur6, hcb, gd.1, by omega, fun r7 H7 s7 hc7 => ?_⟩
        have hd7 := s7 _ _ hd6
        have tkd := TK.dk (o := .dK (putK kv6 (.inl (kk : Int)) (.ref r7))) hd7
        refine ⟨_, rfl, _, rfl, d, _, rfl, DPut.k (k := .inl (kk : Int)) hd7 (small1000 (by omega)), ?_⟩
        refine ⟨_, _, _, rfl, fun x u nx e => ?_, upd_same, ?_, ?_⟩
        · rw [upd_ne nx]
          exact s7 _ _ (sx6 _ _ nx e)
        · rw [tkk, gMap_put hc, show (FW W m n h bb) kk c = _ from by unfold FW; rw [if_neg h1', if_neg h2', if_neg h3', if_pos h4']]
          exact ((hg6.tk s7.tk).tk tkd).put (hc7.tk tkd)
        · rw [putK_same eb]
          exact hkeys6
      have h4' : ¬ W = 4 := fun z => h4 (veq.mpr z)
      have waiP : W = 5 ∨ W = 6 → (FW W m n h bb) kk c = waiC n h c := fun z => by unfold FW; rw [if_neg h1', if_neg h2', if_neg h3', if_neg h4', if_pos z]
      refine ⟨_, rfl, rfl, _, rfl, ?_⟩
      refine ite2 (fun h5 => iteT ?_) (fun h5 => ?_)
      · have h5' : W = 5 := veq.mp h5
        refine ⟨_, rfl, _, rfl, d, _, rfl, dg, _, rfl, _, rfl, b, n, h, c, rfl, hcb, gd.1, gd.2.1, by omega, fun r7 H7 s7 hc7 => ?_⟩
        have hd7 := s7 _ _ hd6
        have tkd := TK.dk (o := .dK (putK kv6 (.inl (kk : Int)) (.ref r7))) hd7
        refine ⟨_, rfl, _, rfl, d, _, rfl, DPut.k (k := .inl (kk : Int)) hd7 (small1000 (by omega)), ?_⟩
        refine ⟨_, _, _, rfl, fun x u nx e => ?_, upd_same, ?_, ?_⟩
        · rw [upd_ne nx]
          exact s7 _ _ (sx6 _ _ nx e)
        · rw [tkk, gMap_put hc, show (FW W m n h bb) kk c = _ from waiP (.inl h5')]
          exact ((hg6.tk s7.tk).tk tkd).put (hc7.tk tkd)
        · rw [putK_same eb]
          exact hkeys6
      have h5' : ¬ W = 5 := fun z => h5 (veq.mpr z)
      refine ⟨_, rfl, rfl, _, rfl, ?_⟩
      refine ite2 (fun h6 => ?_) (fun h6 => ?_)
      · have h6' : W = 6 := veq.mp h6
        refine ⟨_, rfl, _, rfl, d, _, rfl, dg, _, rfl, _, rfl, b, n, h, c, rfl, hcb, gd.1, gd.2.1, by omega, fun r7 H7 s7 hc7 => ?_⟩
        have hd7 := s7 _ _ hd6
        have tkd := TK.dk (o := .dK (putK kv6 (.inl (kk : Int)) (.ref r7))) hd7
        refine ⟨_, rfl, _, rfl, d, _, rfl, DPut.k (k := .inl (kk : Int)) hd7 (small1000 (by omega)), ?_⟩
        refine ⟨_, _, _, rfl, fun x u nx e => ?_, upd_same, ?_, ?_⟩
        · rw [upd_ne nx]
          exact s7 _ _ (sx6 _ _ nx e)
        · rw [tkk, gMap_put hc, show (FW W m n h bb) kk c = _ from waiP (.inr h6')]
          exact ((hg6.tk s7.tk).tk tkd).put (hc7.tk tkd)
        · rw [putK_same eb]
          exact hkeys6
      · have h6' : ¬ W = 6 := fun z => h6 (veq.mpr z)
        have hF : (FW W m n h bb) kk c = c := by unfold FW; rw [if_neg h1', if_neg h2', if_neg h3', if_neg h4', if_neg (fun z => z.elim h5' h6')]
        refine ⟨_, _, kv6, rfl, sx6, hd6, ?_, hkeys6⟩
        rw [tkk, gMap_same nk hc hF]
        exact hg6
    rintro σ H6 ⟨o10, o11, kv6, rfl, sx6, hd6, hg6, hkeys6⟩
    rw [List.length_map, List.take_length] at hg6
    have sxA : SameX d H H6 := sx5'.trans sx6
    have tk6 := sxA.tk hd
    have hT6 := hT.tk tk6
    have bur6 := hbb.tk tk6
    have allF : ∀ i, gMap g (FW W m n h bb) ks i = (g i).map ((FW W m n h bb) i) := fun i => gMap_all (fun i z => (hgk i).mp z) i
    have done : ∀ (b : Addr) (R' : Strp) (H' : Hp), Same H6 H' → StrT K H' b R' → IsStr (fun i => (g i).map ((FW W m n h bb) i)) R' → Q (.ref b) H' := fun b R' H' s' hT' hG' => by
      refine q b R' (gMap g (FW W m n h bb) ks) kv6 H' (fun x u nx e => s' _ _ (sxA _ _ nx e)) (s' _ _ hd6) hkeys6 (hg6.tk s'.tk) (fun i => gMap_some i) (fun i c e => ?_) hT' (hG'.congr fun i _ => (allF i).symm)
      rw [allF] at e
      obtain ⟨c', h1, h2⟩ := Option.map_eq_some_iff.mp e
      rw [← h2]
      exact (hgO i c' h1).of hnd ebb (sub_FW (hgO i c' h1).2.1)
    have cK : ∀ i c, g i = some c → c ∈ ks.filterMap g := fun i c e => List.mem_filterMap.mpr ⟨i, (hgk i).mp (by rw [e]; rfl), e⟩
    obtain ⟨lR0, cR⟩ := hG.cols cK
    have lR : R.length ≤ 4 := by
      have := List.length_filterMap_le g ks
      omega
    have goodR : ∀ p ∈ R, GoodD p.2 := fun p hp => by
      obtain ⟨i, _, e⟩ := List.mem_filterMap.mp (cR p hp)
      exact (hgO i _ e).goodD hib (by omega)
    have mapC : ∀ (f f' : Col → Col), (∀ i c, (FW W m n h bb) i c = if m.testBit i = true then f c else f' c) → ∀ i, (if m.testBit i = true then (g i).map f else (g i).map f') = (g i).map ((FW W m n h bb) i) := fun f f' hff i => by
      cases e : g i with
      | none => split <;> rfl
      | some c =>
        show _ = some ((FW W m n h bb) i c)
        rw [hff]
        split <;> rfl
    refine ⟨_, rfl, _, _, rfl, rfl, _, rfl, ?_⟩
    refine ite2 (fun h1 => ?_) (fun h1 => ?_)
    · have h1' : W < 2 := of_decide_eq_true h1
      exact ⟨_, rfl, _, rfl, _, rfl, aS, m, .non, none, rb, bb, R, g, rfl, bur6, rfl, hT6, hG, by omega, goodR, fun b R' H' s' hT' hG' => done b R' H' s' hT' (hG'.congr fun i _ => mapC _ _ (fun i c => by unfold FW; rw [if_pos h1']; rfl) i)⟩
    have h1' : ¬ W < 2 := fun z => h1 (decide_eq_true z)
    refine ⟨_, rfl, rfl, _, rfl, ?_⟩
    refine ite2 (fun h2 => ?_) (fun h2 => ?_)
    · have h2' : W = 2 := veq.mp h2
      refine ⟨_, rfl, _, rfl, _, rfl, _, rfl, _, rfl, len_ok rfl, fun t ht => ?_⟩
      have s9 := Same.upd (o := .tup [.int n, .int h]) ht
      exact ⟨aS, m, .ref t, some [n, h], rb, bb, R, g, rfl, bur6.tk s9.tk, ⟨t, rfl, SqT.of upd_same⟩, hT6.tk s9.tk, hG, by omega, goodR, fun b R' H' s' hT' hG' => done b R' H' (s9.trans s') hT' (hG'.congr fun i _ => mapC _ _ (fun i c => by unfold FW; rw [if_neg h1', if_pos h2']; rfl) i)⟩
    have h2' : ¬ W = 2 := fun z => h2 (veq.mpr z)
    refine ⟨_, rfl, rfl, _, rfl, ?_⟩
    refine ite2 (fun h3 => ?_) (fun h3 => ?_)
    · have h3' : W = 3 := veq.mp h3
      exact ⟨_, rfl, _, rfl, aS, n, R, g, rfl, hT6, hG, by omega, goodR, fun b R' H' s' hT' hG' => done b R' H' s' hT' (hG'.congr fun i _ => by
        have e : (FW W m n h bb) i = wo n := by funext c; unfold FW; rw [if_neg h1', if_neg h2', if_pos h3']
        rw [e])⟩
    have h3' : ¬ W = 3 := fun z => h3 (veq.mpr z)
    refine ⟨_, rfl, rfl, _, rfl, ?_⟩
    refine ite2 (fun h4 => ?_) (fun h4 => ?_)
    · have h4' : W = 4 := veq.mp h4
      exact ⟨_, rfl, _, rfl, _, rfl, _, rfl, aS, m, n, rb, bb, R, g, rfl, bur6, hT6, hG, by omega, goodR, fun b R' H' s' hT' hG' => done b R' H' s' hT' (hG'.congr fun i _ => mapC _ _ (fun i c => by unfold FW; rw [if_neg h1', if_neg h2', if_neg h3', if_pos h4']) i)⟩
    have h4' : ¬ W = 4 := fun z => h4 (veq.mpr z)
    refine ⟨_, rfl, _, _, rfl, rfl, _, rfl, ?_⟩
    refine ite2 (fun h5 => ?_) (fun h5 => ?_)
    · have h5' : W < 7 := of_decide_eq_true h5
      exact ⟨_, rfl, _, rfl, _, rfl, aS, n, h, R, g, rfl, hT6, hG, by omega, goodR, fun b R' H' s' hT' hG' => done b R' H' s' hT' (hG'.congr fun i _ => by
        have e : (FW W m n h bb) i = waiC n h := by funext c; unfold FW; rw [if_neg h1', if_neg h2', if_neg h3', if_neg h4', if_pos (by omega)]
        rw [e])⟩
    have h5' : ¬ W < 7 := fun z => h5 (decide_eq_true z)
    refine ⟨_, rfl, _, _, rfl, rfl, ⟨by decide, by decide, by decide⟩, _, _, rfl, rfl, _, rfl, _, _, rfl, rfl, aS, 2 ^ 64 - 1 - m, R, g, by rw [show ((2 ^ 64 - 1 - m : Nat) : Int) = 2 ^ (64 : Int).toNat - 1 - (m : Int) by rw [show (2 : Int) ^ (64 : Int).toNat = 18446744073709551616 by decide]; omega], hT6, hG, by omega, fun b1 R1 H7 s7 hT1 hG1 => ?_⟩
    refine ⟨_, rfl, _, rfl, aS, m, R, g, rfl, hT6.tk s7.tk, hG, by omega, fun b2 R2 H8 s8 hT2 hG2 => ?_⟩
    have c1 : ∀ i c, (if (2 ^ 64 - 1 - m).testBit i = true then g i else none) = some c → c ∈ ks.filterMap g := fun i c e => by
      split at e
      · exact cK i c e
      · cases e
    have c2 : ∀ i c, (if m.testBit i = true then g i else none) = some c → c ∈ ks.filterMap g := fun i c e => by
      split at e
      · exact cK i c e
      · cases e
    obtain ⟨l1, d1⟩ := hG1.cols c1
    obtain ⟨l2, d2⟩ := hG2.cols c2
    have lC4 := List.length_filterMap_le g ks
    refine ⟨b1, b2, _, _, _, _, ks.filterMap g, rfl, hT1.tk s8.tk, hT2, hG1.grd, hG2.grd, ⟨by omega, by omega⟩, fun i hi => ?_, ⟨by omega, d1, d2⟩, fun b R' H' s' hT' hG' => done b R' H' (s7.trans (s8.trans s')) hT' (hG'.congr fun i hi => ?_)⟩
    · rw [rest_bit hm hi]
      cases m.testBit i with
      | true => exact .inl (by simp)
      | false => exact .inr (by simp)
    · have e : (FW W m n h bb) i = id := by funext c; unfold FW; rw [if_neg h1', if_neg h2', if_neg h3', if_neg h4', if_neg (by omega)]; rfl
      rw [rest_bit hm hi, e]
      cases m.testBit i with
      | true => simp
      | false => simp
noncomputable def sp_law (K : PySem.W.Frag) : Sp := fun vs H Q _ => ∃ (a : Addr) (ns : List Int), vs = [.ref a] ∧ SqL K H a (ns.map V.int) ∧ ns.length ≤ 63 ∧ ∀ H', Q (.bl true) H'
theorem sc_law : FnScope ["_law_script", "_law_cells", "_law_pool_here", "_law_ground", "_law_spot", "_law_strips_here", "_law_k", "_law_deep"] ["_law_script"] (defScope s_law) := ⟨rfl, rfl, rfl, by decide +kernel, rfl, by decide +kernel, by decide +kernel⟩
set_option maxHeartbeats 4000000 in
theorem ok_law {f : Addr} {fd : FuncData} (F : Fun K "law" "law" s_law f fd) (B : Bn mg) (d_law_pool : Df P w K mg base 2 "_law_pool" ["_law_cell", "_law_many"] (sp_law_pool K)) (d_law_spots : Df P w K mg base 1 "_law_spots" ["_law_cell", "_law_many"] (sp_law_spots K)) (d_law_strips : Df P w K mg base 1 "_law_strips" ["_law_ground"] (sp_law_strips K)) (d_deepest : Df P w K mg base 1 "deepest" ["strips"] (sp_deepest K)) (d_law_cell_at : Df P w K mg base 1 "_law_cell_at" ["_law_script", "_law_k"] (sp_law_cell_at K)) (d_law_deed : Df P w K mg base 7 "_law_deed" ["_law_ground", "_law_strips_here", "_law_xs", "_law_burden", "_law_stranger"] (sp_law_deed K)) (d_burdens_on : Df P w K mg base 2 "burdens_on" ["strips"] (sp_burdens_on K)) (d_law_all : Df P w K mg base 1 "_law_all" ["_law_columns"] (sp_law_all K)) (d_law_stream : Df P w K mg base 1 "_law_stream" ["_law_cell", "_law_many"] (sp_law_stream K)) (d_law_alike : Df P w K mg base 2 "_law_alike" ["_law_found", "_law_due"] (sp_law_alike K)) (d_law_whole : Df P w K mg base 1 "_law_whole" ["_law_found"] (sp_law_whole K)) (d_column_at : Df P w K mg base 2 "column_at" ["strips", "cell"] (sp_column_at K)) : FnOk P w K mg base CX0 8 f fd ["_law_script"] (sp_law K) := by
  refine F.ok sc_law (fun vs H Q E h => ?_) (fun cdv A outer s H vs Q E hr h => ?_)
  · obtain ⟨a, ns, rfl, hS, hlen, q⟩ := h
    rfl
  · obtain ⟨a, ns, rfl, hS, hlen, q⟩ := h
    have hu := hr.units
    refine ⟨_, (pss_cons (ps_set (i := 1) sc_law.nd rfl (by first | exact Or.inl rfl | exact Or.inr rfl) (pe_slice sl_list (pv 0) (po_some pe_int) (po_some pe_int)))
      (pss_cons (ps_set (i := 2) sc_law.nd rfl (by first | exact Or.inl rfl | exact Or.inr rfl) (pe_df d_law_pool hr (pa_cons (pe_df d_law_cell_at hr (pa_cons (pv 0) (pa_cons pe_int pa_nil))) (pa_cons (pe_op op_add (pe_callB call_len_seq (by rfl) B.len PySem.boot_len (pa_cons (pv 1) pa_nil)) pe_int) pa_nil))))
      (pss_cons (ps_set (i := 3) sc_law.nd rfl (by first | exact Or.inl rfl | exact Or.inr rfl) pe_dnewK)
      (pss_cons (ps_for PassesOwn.never rfl (pi_list (pe_df d_law_spots hr (pa_cons (pe_df d_law_cell_at hr (pa_cons (pv 0) (pa_cons pe_int pa_nil))) (pa_cons (pe_op op_mod (pe_df d_law_cell_at hr (pa_cons (pv 0) (pa_cons pe_int pa_nil))) pe_int) pa_nil)))) (pg_name (i := 4) sc_law.nd rfl (by first | exact Or.inl rfl | exact Or.inr rfl)) (pss_one (ps_dput (hu_of hr) (pv 3) (pv 4) (pe_tup pa_nil) rfl)))
      (pss_cons (ps_set (i := 5) sc_law.nd rfl (by first | exact Or.inl rfl | exact Or.inr rfl) (pe_df d_law_strips hr (pa_cons (pv 3) pa_nil)))
      (pss_cons (ps_for PassesOwn.never rfl (pi_range1 (by rfl) B.range (pa_cons (pe_callB call_len_seq (by rfl) B.len PySem.boot_len (pa_cons (pv 1) pa_nil)) pa_nil)) (pg_name (i := 6) sc_law.nd rfl (by first | exact Or.inl rfl | exact Or.inr rfl)) (pss_cons (ps_set (i := 5) sc_law.nd rfl (by first | exact Or.inl rfl | exact Or.inr rfl) (pe_df d_law_deed hr (pa_cons (pv 3) (pa_cons (pv 5) (pa_cons (pe_df d_law_stream hr (pa_cons (pe_ix ix_list (pv 1) (pv 6) (fun _ _ => rfl)) (pa_cons pe_int pa_nil))) (pa_cons (pe_ix ix_list (pv 2) (pv 6) (fun _ _ => rfl)) (pa_cons (pe_ix ix_tup (pe_ix ix_list (pv 2) (pe_un un_neg pe_int) (fun _ _ => rfl)) pe_int (fun _ _ => rfl)) pa_nil)))))))
      (pss_one (ps_if (pt_not (pt_val (pe_df d_law_alike hr (pa_cons (pv 5) (pa_cons (pe_df d_law_strips hr (pa_cons (pv 3) pa_nil)) pa_nil))))) (pss_one (ps_ret pe_bl)) pss_nil))))
      (pss_cons (ps_set (i := 7) sc_law.nd rfl (by first | exact Or.inl rfl | exact Or.inr rfl) (pe_df d_deepest hr (pa_cons (pv 5) pa_nil)))
      (pss_cons (ps_if ((pw_or (pt_not (pt_val (pe_df d_law_whole hr (pa_cons (pv 7) pa_nil)))) (pw_or1 (pt_cmpR op_ne (pv 7) (pe_callB (call_maxL rfl) (by rfl) B.max boot_max (pa_cons (pe_op op_cat (pe_lst (pa_cons pe_int pa_nil)) (pe_lcomp ["_law_spot"] [("_law_ground", 3)] (clOf _ ["_law_ground"]) rfl (by rfl) rfl (by decide +kernel) (by decide +kernel) (clOf_cells (by rfl)) (kin_of (by rfl)) (fun p hp => by
        cases hp with
        | head => exact ⟨rfl, rfl⟩
        | tail _ hp => exact (by cases hp)) (fun p hp => by
        cases hp with
        | head => exact rfl
        | tail _ hp => exact (by cases hp)) (wk_name (by decide)) (pi_dict (pv 3)) (fun _ _ _ _ => pg_name (i := 0) (show (["_law_spot", "_law_ground"] : List Str).Nodup by decide +kernel) rfl (Or.inl rfl) (Or.inr rfl)) (fun _ _ _ _ => pifs_nil) (fun _ _ _ _ => (pe_callB (call_len_seqK (K := K) rfl) (by rfl) B.len PySem.boot_len (pa_cons (pe_dget (hu_of hr) (pv 1) (pv 0) (fun _ _ => rfl)) pa_nil))))) pa_nil)) (nomark _)))).pt) (pss_one (ps_ret pe_bl)) pss_nil)
      (pss_cons (ps_for PassesOwn.never rfl (pi_dict (pv 3)) (pg_name (i := 4) sc_law.nd rfl (by first | exact Or.inl rfl | exact Or.inr rfl)) (pss_one (ps_if (pt_cmpR (op_neD hu) (pe_df d_column_at hr (pa_cons (pv 5) (pa_cons (pv 4) pa_nil))) (pe_dget (hu_of hr) (pv 3) (pv 4) (fun _ _ => rfl)) (nomark _)) (pss_one (ps_ret pe_bl)) pss_nil)))
      (pss_one (ps_ret (pe_cmpR (op_eqD hu) (pe_df d_burdens_on hr (pa_cons (pv 5) pa_nil)) (pe_df d_law_all hr (pa_cons (pe_lcomp ["_law_spot"] [("_law_ground", 3)] (clOf _ ["_law_ground"]) rfl (by rfl) rfl (by decide +kernel) (by decide +kernel) (clOf_cells (by rfl)) (kin_of (by rfl)) (fun p hp => by
        cases hp with
        | head => exact ⟨rfl, rfl⟩
        | tail _ hp => exact (by cases hp)) (fun p hp => by
        cases hp with
        | head => exact rfl
        | tail _ hp => exact (by cases hp)) (wk_name (by decide)) (pi_dict (pv 3)) (fun _ _ _ _ => pg_name (i := 0) (show (["_law_spot", "_law_ground"] : List Str).Nodup by decide +kernel) rfl (Or.inl rfl) (Or.inr rfl)) (fun _ _ _ _ => pifs_nil) (fun _ _ _ _ => (pe_dget (hu_of hr) (pv 1) (pv 0) (fun _ _ => rfl)))) pa_nil)) (nomark _))))))))))))), ?_⟩
    have m5 : 0 ≤ ns.getD 2 0 % 5 ∧ ns.getD 2 0 % 5 < 5 := ⟨Int.emod_nonneg _ (by decide), Int.emod_lt_of_pos _ (by decide)⟩
    refine ⟨_, rfl, _, rfl, _, rfl, a, _, rfl, hS, fun lc hlc => ?_⟩
    obtain ⟨cs, ec, lcs⟩ : ∃ cs : List Int, cutV (ns.map V.int) (some 3) (some 61) = cs.map V.int ∧ cs.length ≤ 58 := by
      refine ⟨(ns.drop (min 3 ns.length)).take (min 61 ns.length - min 3 ns.length), ?_, ?_⟩
      · unfold cutV
        rw [show (some (3 : Int)) = some ((3 : Nat) : Int) from rfl, show (some (61 : Int)) = some ((61 : Nat) : Int) from rfl, HT.sIx_nat, HT.sIx_nat, List.length_map, List.map_take, List.map_drop]
      · rw [List.length_take]
        omega
    have s1 := Same.upd (o := .lst (cutV (ns.map V.int) (some 3) (some 61))) hlc
    have hlc1 : (upd H lc (.lst (cutV (ns.map V.int) (some 3) (some 61)))) lc = some (.lst (cs.map V.int)) := by rw [upd_same, ec]
    have hS1 := s1.seq hS
    generalize (upd H lc (.lst (cutV (ns.map V.int) (some 3) (some 61)))) = H1 at s1 hlc1 hS1 ⊢
    refine ⟨_, rfl, a, ns, 0, rfl, hS1, _, rfl, lc, _, rfl, .inl (SqL.of hlc1), _, _, rfl, rfl, _, cs.length + 1, by rw [List.length_map]; rfl, by omega, fun lp ps rs H2 s2 h2 pr2 hrs hib hnd => ?_⟩
    have lps : ps.length = rs.length := Paired.length pr2
    have hS2 := s2.seq hS1
    have hlc2 := s2 _ _ hlc1
    intro d hd
    have sd := Same.upd (o := .dK []) hd
    have hS2d := sd.seq hS2
    have hd0 : (upd H2 d (.dK [])) d = some (.dK []) := upd_same
    have hlc2d := sd _ _ hlc2
    have hlp2d := sd _ _ h2
    have pr2d := Paired.imp (fun _ _ z => BurE.tk sd.tk z) pr2
    generalize (upd H2 d (.dK [])) = H2d at sd hS2d hd0 hlc2d hlp2d pr2d ⊢
    refine ⟨_, rfl, a, ns, 1, rfl, hS2d, _, rfl, a, ns, 2, rfl, hS2d, _, _, rfl, rfl, (by show (0 : Int) < _; decide), _, (ns.getD 2 0 % 5).toNat, by rw [Int.toNat_of_nonneg m5.1], by omega, fun ls ks hls hkl hks hkn => ?_⟩
    have hk4 : ks.length ≤ 4 := by omega
    have s3 := Same.upd (o := .lst (NV ks)) hls
    have hsp3 : (upd H2d ls (.lst (NV ks))) ls = some (.lst (NV ks)) := upd_same
    have hd3 := s3 _ _ hd0
    have hS3 := s3.seq hS2d
    have hlc3 := s3 _ _ hlc2d
    have hlp3 := s3 _ _ hlp2d
    have pr3 := Paired.imp (fun _ _ z => BurE.tk s3.tk z) pr2d
    generalize (upd H2d ls (.lst (NV ks))) = H3 at s3 hsp3 hd3 hS3 hlc3 hlp3 pr3 ⊢
    have nls : ls ≠ d := fun z => by rw [z, hd3] at hsp3; cases hsp3
    have nlc : lc ≠ d := fun z => by rw [z, hd3] at hlc3; cases hlc3
    have nlp : lp ≠ d := fun z => by rw [z, hd3] at hlp3; cases hlp3
    have keyAt : ∀ {kvs : List (Key × V)}, kvs.map (·.1) = ks.map (fun k : Nat => (.inl (k : Int) : Key)) → ∀ (i : Nat) (kk : Key) (v : V), kvs[i]? = some (kk, v) → ∃ k : Nat, ks[i]? = some k ∧ kk = .inl (k : Int) := fun {kvs} hkeys i kk v h => by
      have e : (kvs.map (·.1))[i]? = some kk := by rw [List.getElem?_map, h]; rfl
      rw [hkeys, List.getElem?_map] at e
      cases e' : ks[i]? with
      | none => rw [e'] at e; cases e
      | some k => rw [e'] at e; exact ⟨k, rfl, (Option.some.inj e).symm⟩
    refine ⟨ls, rfl, ⟨_, SqL.of hsp3⟩, for_list (K := K) (a := ls) (xs := NV ks) (fun i σ H4 => ∃ (o4 : Option V) (kvs : List (Key × V)), σ = [some (.ref a), some (.ref lc), some (.ref lp), some (.ref d), o4, none, none, none] ∧ SameX d H3 H4 ∧ H4 d = some (.dK kvs) ∧ GD K H4 kvs (gfun (fun _ => some []) (ks.take i)) ∧ kvs.map (·.1) = (ks.take i).map (fun k : Nat => (.inl (k : Int) : Key))) ⟨none, [], rfl, SameX.refl d H3, hd3, by rw [List.take_zero, gfun_nil]; exact GD.nil, rfl⟩ (fun i σ H4 _ ⟨_, _, _, e, _⟩ => SqL.of (e _ _ nls hsp3)) ?_ ?_⟩
    · rintro i y σ H4 hi ⟨o4, kvs, rfl, sx4, hd4, hg4, hk4'⟩
      obtain ⟨k, hk, rfl⟩ : ∃ k, ks[i]? = some k ∧ y = .int (k : Nat) := by
        rw [List.getElem?_map] at hi
        cases e : ks[i]? with
        | none => rw [e] at hi; cases hi
        | some k => rw [e] at hi; cases hi; exact ⟨k, rfl, rfl⟩
      have tkk : ks.take (i + 1) = ks.take i ++ [k] := by rw [List.take_add_one, hk]; rfl
      have nk : ¬ k ∈ ks.take i := fun z => by
        have nd' := hkn
        rw [← List.take_append_drop (i + 1) ks, tkk] at nd'
        have := (List.nodup_append.mp (List.nodup_append.mp nd').1).2.2 k z k (List.mem_singleton.mpr rfl)
        exact this rfl
      have vn : valV kvs (.inl (k : Int)) = none := by
        rcases hg4 k with ⟨z, _⟩ | ⟨b, c, _, z, _⟩
        · exact z
        · unfold gfun at z
          rw [if_neg nk] at z
          cases z
      have lk : kvs.length ≤ 4 := by
        have := congrArg List.length hk4'
        rw [List.length_map, List.length_map, List.length_take] at this
        omega
      refine ⟨len_ok rfl, fun e he => ?_⟩
      have s5 := Same.upd (o := .tup []) he
      have hd5 := s5 _ _ hd4
      have tkd := TK.dk (o := .dK (putK kvs (.inl (k : Int)) (.ref e))) hd5
      have ce : ColV K (upd H4 e (.tup [])) e [] := ColV.of (SqT.of upd_same) .nil
      refine ⟨_, rfl, _, rfl, d, _, rfl, DPut.k (k := .inl (k : Int)) hd5 (small1000 (by omega)), ?_⟩
      refine ⟨_, _, rfl, fun x u nx e' => ?_, upd_same, ?_, ?_⟩
      · rw [upd_ne nx]
        exact s5 _ _ (sx4 _ _ nx e')
      · rw [tkk, gfun_snoc (c := []) rfl]
        exact ((hg4.tk s5.tk).tk tkd).put (ce.tk tkd)
      · rw [putK_newKeys vn, hk4', tkk, List.map_append]
        rfl
    rintro σ H4 ⟨o4, kvs0, rfl, sx4, hd4, hg4, hkeys0⟩
    rw [List.length_map, List.take_length] at hg4 hkeys0
    have hg0k : ∀ i, (gfun (fun _ => some ([] : Col)) ks i).isSome = true ↔ i ∈ ks := fun i => by
      unfold gfun
      by_cases z : i ∈ ks
      · rw [if_pos z]; exact ⟨fun _ => z, fun _ => rfl⟩
      · rw [if_neg z]; exact ⟨fun w => (nomatch w), fun w => absurd w z⟩
    have hg0e : ∀ i c, gfun (fun _ => some ([] : Col)) ks i = some c → c = [] := fun i c e => (Option.some.inj (gfun_some e)).symm
    refine ⟨_, rfl, d, kvs0, _, [[]], rfl, hd4, hg4, fun i c e => by rw [hg0e i c e]; exact List.mem_singleton.mpr rfl, by decide, fun aS0 R0 H5 s5 hT0 hG0 => ?_⟩
    have hd5 := s5 _ _ hd4
    have hlc5 := s5 _ _ (sx4 _ _ nlc hlc3)
    have hlp5 := s5 _ _ (sx4 _ _ nlp hlp3)
    have pr5 := Paired.imp (fun _ _ z => BurE.tk ((sx4.tk hd3).trans s5.tk) z) pr3
    have hg5 := hg4.tk s5.tk
    generalize gfun (fun _ => some ([] : Col)) ks = g0 at hg5 hg0k hg0e hG0
    refine ⟨_, rfl, lc, _, rfl, .inl (SqL.of hlc5), _, rfl, by omega, by rw [List.length_map]; omega, ?_⟩
    rw [show (((cs.map V.int).length : Nat) : Int).toNat = cs.length by rw [List.length_map]; rfl]
    have hrl : rs.length ≤ 59 := by omega
    refine for_range (n := cs.length) (lo := 0) (fun i σ H6 => ∃ (o4' : Option V) (o6 : Option V) (aS : Addr) (R : Strp) (g : Nat → Option Col) (kvs : List (Key × V)), σ = [some (.ref a), some (.ref lc), some (.ref lp), some (.ref d), o4', some (.ref aS), o6, none] ∧ SameX d H5 H6 ∧ H6 d = some (.dK kvs) ∧ kvs.map (·.1) = ks.map (fun k : Nat => (.inl (k : Int) : Key)) ∧ GD K H6 kvs g ∧ (∀ j, (g j).isSome = true ↔ j ∈ ks) ∧ (∀ j c, g j = some c → OfP rs i c) ∧ StrT K H6 aS R ∧ IsStr g R) ⟨o4, none, aS0, R0, g0, kvs0, rfl, SameX.refl d H5, hd5, hkeys0, hg5, hg0k, fun j c e => by rw [hg0e j c e]; exact ⟨fun _ z => (nomatch z), List.nodup_nil, Nat.zero_le _⟩, hT0, hG0⟩ ?_ ?_
    · rintro i σ H6 hi ⟨o4', o6, aS, R, g, kvs, rfl, sx6, hd6, hkeys, hg6, hgk, hgO, hT6, hG⟩
      rw [show (0 : Int) + (i : Int) = ((i : Nat) : Int) by omega]
      have tk6 := sx6.tk hd5
      have hlc6 := sx6 _ _ nlc hlc5
      have hlp6 := sx6 _ _ nlp hlp5
      have pr6 := Paired.imp (fun _ _ z => BurE.tk tk6 z) pr5
      obtain ⟨ci, eci⟩ : ∃ c, cs[i]? = some c := ⟨_, List.getElem?_eq_getElem hi⟩
      have ecv : (cs.map V.int)[i]? = some (.int ci) := by rw [List.getElem?_map, eci]; rfl
      refine ⟨_, rfl, _, rfl, _, rfl, _, rfl, lc, _, _, _, rfl, rfl, SqL.of hlc6, atI_nat ecv, ci, 4, rfl, by decide, fun lx xs hlx hx hb => ?_⟩
      have s7 := Same.upd (o := .lst (xs.map V.int)) hlx
      have hlx7 : (upd H6 lx (.lst (xs.map V.int))) lx = some (.lst (xs.map V.int)) := upd_same
      generalize (upd H6 lx (.lst (xs.map V.int))) = H7 at s7 hlx7 ⊢
      have hlp7 := s7 _ _ hlp6
      have hd7 := s7 _ _ hd6
      have pr7 := Paired.imp (fun _ _ z => BurE.tk s7.tk z) pr6
      obtain ⟨vb, evb⟩ : ∃ v, ps[i]? = some v := ⟨_, List.getElem?_eq_getElem (by omega)⟩
      obtain ⟨bb, ebb, bur7⟩ := paired_at pr7 evb
      obtain ⟨ps0, vl, rs0, rl, eps, ers, _, burl⟩ := paired_last pr7 (fun z => by rw [z] at lps; simp at lps; omega)
      obtain ⟨layl, al, rfl, hal⟩ := burl
      obtain ⟨nl, k1, x1, m1, u1, erl⟩ := hib rl (by rw [ers]; simp)
      rw [erl] at hal
      have eat : atI ps (-1) = some (.ref al) := by rw [eps]; exact last_at
      refine ⟨_, rfl, _, rfl, lp, _, _, _, rfl, rfl, SqL.of hlp7, atI_nat evb, ?_⟩
      refine ⟨_, rfl, _, rfl, lp, _, _, _, rfl, rfl, SqL.of hlp7, eat, al, _, _, _, rfl, rfl, hal, (atI_nat (j := 0) rfl), ?_⟩
      refine ⟨d, aS, lx, xs, vb, bb, nl, kvs, g, R, rs, ks, i, rfl, hd7, hg6.tk s7.tk, hT6.tk s7.tk, hG, hlx7, hx, hb, bur7, ebb, hrl, hib, hnd, hgO, hkn, hks, hk4, hkeys, hgk, fun b R' g' kvs' H8 sx8 hd8 hk8 hg8 hs8 hO8 hT8 hG8 => ?_⟩
      have hgk8 : ∀ j, (g' j).isSome = true ↔ j ∈ ks := fun j => by rw [hs8 j]; exact hgk j
      have cK8 : ∀ j c, g' j = some c → c ∈ ks.filterMap g' := fun j c e => List.mem_filterMap.mpr ⟨j, (hgk8 j).mp (by rw [e]; rfl), e⟩
      have l8 := List.length_filterMap_le g' ks
      refine ⟨_, rfl, _, rfl, d, kvs', g', _, rfl, hd8, hg8, cK8, by omega, fun a2 R2 H9 s9 hT9 hG9 => ?_⟩
      have u := hG9.uniq hG8
      subst u
      refine ⟨b, a2, _, rfl, hT8.tk s9.tk, hT9, _, rfl, iteF ?_⟩
      exact ⟨_, _, b, _, g', kvs', rfl, fun x u nx e => s9 _ _ (sx8 _ _ nx (s7 _ _ (sx6 _ _ nx e))), s9 _ _ hd8, hk8.trans hkeys, hg8.tk s9.tk, hgk8, hO8, hT8.tk s9.tk, hG8⟩
    rintro σ H6 ⟨o4', o6, aS, R, g, kvs, rfl, sx6, hd6, hkeys, hg6, hgk, hgO, hT6, hG⟩
    have lkv : kvs.length = ks.length := by
      have := congrArg List.length hkeys
      simpa using this
    have gkC : ∀ k ∈ ks, ∃ c, g k = some c := fun k hk => by
      have := (hgk k).mpr hk
      cases e : g k with
      | none => rw [e] at this; cases this
      | some c => exact ⟨c, rfl⟩
    have lR := hG.len
    have rowsIn : ∀ i c, g i = some c → ∀ r ∈ c, r ∈ rs := fun i c e r hr => List.mem_of_mem_take ((hgO i c e).1 r hr)
    have colR : ∀ p ∈ R, ∃ k ∈ ks, g k = some p.2 := fun p hp => by
      obtain ⟨q1, q2, q3⟩ := hG.ok p hp
      have lt := low_lt q1 (show 64 ≤ 64 by decide) q2
      have e := (q3 _ lt).mp (low_spec q1 q2).1
      exact ⟨_, (hgk _).mp (by rw [e]; rfl), e⟩
    refine ⟨_, rfl, aS, R, rfl, hT6, by omega, fun mx H7 s7 hmx => ?_⟩
    have hd7 := s7 _ _ hd6
    have hg7 := hg6.tk s7.tk
    refine ⟨_, rfl, _, "int", rfl, TyOf.int _, _, rfl, iteF ?_⟩
    refine ⟨_, rfl, len_ok rfl, fun l0 hl0 => ?_⟩
    have s8 := Same.upd (o := .lst [.int 0]) hl0
    have hl08 : (upd H7 l0 (.lst [.int 0])) l0 = some (.lst [.int 0]) := upd_same
    generalize (upd H7 l0 (.lst [.int 0])) = H8 at s8 hl08 ⊢
    have hd8 := s8 _ _ hd7
    refine ⟨_, rfl, d, kvs, rfl, .inl ⟨hd8, fun o A1 hA1 => ?_⟩⟩
    have sx9 : SameX d H8 (upd H8 d (.frz o (.dK kvs))) := SameX.upd
    have hf9 : (upd H8 d (.frz o (.dK kvs))) d = some (.frz o (.dK kvs)) := upd_same
    have tk9 := sx9.tk hd8
    have nl0 : l0 ≠ d := fun z => by rw [z, hd8] at hl08; cases hl08
    generalize (upd H8 d (.frz o (.dK kvs))) = H9 at sx9 hf9 tk9 hA1 ⊢
    have hg9 := (hg7.tk s8.tk).tk tk9
    have hT9 := (hT6.tk (s7.trans s8).tk).tk tk9
    have hl09 := sx9 _ _ nl0 hl08
    have getC : ∀ (i : Nat) (kk : Key) (v : V), kvs[i]? = some (kk, v) → ∃ (k : Nat) (c : Col) (b : Addr), ks[i]? = some k ∧ kk = .inl (k : Int) ∧ g k = some c ∧ ColV K H9 b c ∧ ∀ {H' : Hp}, Same H9 H' → DGet H' d (.int (k : Nat)) (some (.ref b)) := fun i kk v hi => by
      obtain ⟨kn, hkn', rfl⟩ := keyAt hkeys i kk v hi
      obtain ⟨c, hc⟩ := gkC kn (List.mem_of_getElem? hkn')
      obtain ⟨b, eb, hcb⟩ : ∃ b, valV kvs (.inl (kn : Int)) = some (.ref b) ∧ ColV K H9 b c := by
        rcases hg9 kn with ⟨_, z⟩ | ⟨b, c', z1, z2, z3⟩
        · rw [hc] at z; cases z
        · rw [hc] at z2; cases z2; exact ⟨b, z1, z3⟩
      refine ⟨kn, c, b, hkn', rfl, hc, hcb, fun {H'} sH => ?_⟩
      rw [← eb]
      exact .inl ⟨kvs, .inl (kn : Int), .inr ⟨o, sH _ _ hf9⟩, rfl, rfl⟩
    refine compD (d := d) (o := o) (kvs := kvs) (fun i acc H2 => H2 = upd H9 A1 (.lst acc) ∧ ∃ L : List Int, acc = L.map V.int ∧ L.length = i ∧ ∀ x, x ∈ L ↔ ∃ k ∈ ks.take i, ∃ c, g k = some c ∧ x = ((c.length : Nat) : Int)) ⟨rfl, [], rfl, rfl, fun x => by simp⟩ (fun i acc H2 _ ⟨e, _⟩ => by rw [e]; exact (Same.upd hA1) _ _ hf9) ?_ ?_
    · rintro i kk v acc H2 hi ⟨rfl, L, rfl, lL, hL⟩
      obtain ⟨kn, c, b, hkn', rfl, hc, hcb9, dgA⟩ := getC i kk v hi
      have hcb := hcb9.tk (Same.upd (o := .lst (L.map V.int)) hA1).tk
      have dg := dgA (Same.upd (o := .lst (L.map V.int)) hA1)
      have il : i < kvs.length := (List.getElem?_eq_some_iff.mp hi).1
      obtain ⟨xs5, hx5, lx5⟩ := hcb.len
      have tkk : ks.take (i + 1) = ks.take i ++ [kn] := by rw [List.take_add_one, hkn']; rfl
      refine ⟨_, rfl, _, rfl, d, _, rfl, dg, b, _, rfl, .inr hx5, upd_same, small1000 (by rw [List.length_map]; omega), by rw [upd_upd], L ++ [((c.length : Nat) : Int)], by rw [List.map_append, lx5]; rfl, by rw [List.length_append, lL]; rfl, fun x => ?_⟩
      rw [List.mem_append, List.mem_singleton, hL, tkk]
      constructor
      · rintro (⟨k, h1, h2⟩ | h1)
        · exact ⟨k, List.mem_append_left _ h1, h2⟩
        · exact ⟨kn, List.mem_append_right _ (List.mem_singleton.mpr rfl), c, hc, h1⟩
      · rintro ⟨k, h1, c', h2, h3⟩
        rcases List.mem_append.mp h1 with z | z
        · exact .inl ⟨k, z, c', h2, h3⟩
        · rw [List.mem_singleton.mp z, hc] at h2
          cases h2
          exact .inr h3
    rintro acc H2 ⟨rfl, L, rfl, lL, hL⟩
    rw [lkv, List.take_length] at hL
    have sA1 := Same.upd (o := .lst (L.map V.int)) hA1
    refine ⟨l0, A1, _, _, rfl, rfl, sA1 _ _ hl09, upd_same, Nat.le_of_lt (small1000 (by rw [List.length_map]; show 1 + _ ≤ 1000; omega)), fun l7 hl7 => ?_⟩
    have s10 := Same.upd (o := .lst ([.int 0] ++ L.map V.int)) hl7
    refine ⟨l7, 0 :: L, rfl, SqL.of upd_same, by simp, fun m' hm' hall => ?_⟩
    have em : mx = m' := by
      refine (hmx.congr fun x => ?_).uniq ⟨hm', hall⟩
      rw [List.mem_cons, List.mem_cons, hL]
      constructor
      · rintro (h1 | h1)
        · exact .inl h1
        · obtain ⟨p, hp, e⟩ := List.mem_map.mp h1
          obtain ⟨k, hk, ek⟩ := colR p hp
          exact .inr ⟨k, hk, p.2, ek, e.symm⟩
      · rintro (h1 | ⟨k, hk, c, ek, e⟩)
        · exact .inl h1
        · obtain ⟨p, hp, ep⟩ := List.mem_map.mp (hG.all k c (hks k hk) ek)
          exact .inr (List.mem_map.mpr ⟨p, hp, by rw [ep]; exact e.symm⟩)
    subst em
    refine ⟨rfl, _, rfl, ?_⟩
    rw [decide_eq_true (rfl : V.int mx = V.int mx)]
    refine iteF ?_
    have s910 := sA1.trans s10
    generalize (upd (upd H9 A1 (.lst (L.map V.int))) l7 (.lst ([.int 0] ++ L.map V.int))) = H10 at s910 ⊢
    have hf10 := s910 _ _ hf9
    have hT10 := hT9.tk s910.tk
    refine ⟨_, rfl, d, kvs, rfl, .inr ⟨o, hf10, ?_⟩⟩
    refine for_dict (a := d) (o := o) (kvs := kvs) (fun i σ H11 => ∃ o4'' : Option V, σ = [some (.ref a), some (.ref lc), some (.ref lp), some (.ref d), o4'', some (.ref aS), o6, some (.int mx)] ∧ H11 = H10) ⟨_, rfl, rfl⟩ (fun i σ H11 _ ⟨_, _, e⟩ => by rw [e]; exact hf10) ?_ ?_
    · rintro i kk v σ H11 hi ⟨o4'', rfl, rfl⟩
      obtain ⟨kn, c, b, hkn', rfl, hc, hcb9, dgA⟩ := getC i kk v hi
      have hcb := hcb9.tk s910.tk
      have dg := dgA s910
      refine ⟨_, rfl, _, rfl, aS, kn, R, g, rfl, hT10, hG, hks kn (List.mem_of_getElem? hkn'), fun z => ?_, fun c' b' e hb' => ?_⟩
      · rw [hc] at z; cases z
      · rw [hc] at e
        cases e
        refine ⟨_, rfl, _, rfl, d, _, rfl, dg, colD c, colD c, hb'.isD, hcb.isD, lay_col c hcb.1, lay_col c hcb.1, Nat.le_trans (dep_col c) (by decide), _, rfl, ?_⟩
        rw [col_eqv, decide_eq_true (rfl : c = c)]
        refine iteF ?_
        exact ⟨_, rfl, rfl⟩
    rintro σ H11 ⟨o4'', rfl, rfl⟩
    refine ⟨_, rfl, aS, R, rs, rfl, hT10, by omega, fun p hp r hr => ?_, hrl, hib, hnd, fun b3 T3 H12 s12 hB3 hV3 => ?_⟩
    · obtain ⟨k, hk, ek⟩ := colR p hp
      exact rowsIn k _ ek r hr
    have s912 := s910.trans s12
    refine ⟨_, rfl, d, kvs, rfl, .inr ⟨o, s912 _ _ hf9, fun A3 hA3 => ?_⟩⟩
    refine compD (d := d) (o := o) (kvs := kvs) (fun i acc H2 => H2 = upd H12 A3 (.lst acc) ∧ ∃ Cs : List Col, Paired (ColE K H12) acc Cs ∧ Cs.length = i ∧ ∀ c, c ∈ Cs ↔ ∃ k ∈ ks.take i, g k = some c) ⟨rfl, [], .nil, rfl, fun c => by simp⟩ (fun i acc H2 _ ⟨e, _⟩ => by rw [e]; exact (Same.upd hA3) _ _ (s912 _ _ hf9)) ?_ ?_
    · rintro i kk v acc H2 hi ⟨rfl, Cs, pC, lC, hC⟩
      obtain ⟨kn, c, b, hkn', rfl, hc, hcb9, dgA⟩ := getC i kk v hi
      have il : i < kvs.length := (List.getElem?_eq_some_iff.mp hi).1
      have tkk : ks.take (i + 1) = ks.take i ++ [kn] := by rw [List.take_add_one, hkn']; rfl
      refine ⟨_, rfl, _, rfl, d, _, rfl, dgA (s912.trans (Same.upd (o := .lst acc) hA3)), upd_same, small1000 (by rw [Paired.length pC]; omega), by rw [upd_upd], Cs ++ [c], Paired.app pC (.cons ⟨b, rfl, hcb9.tk s912.tk⟩ .nil), by rw [List.length_append, lC]; rfl, fun c' => ?_⟩
      rw [List.mem_append, List.mem_singleton, hC, tkk]
      constructor
      · rintro (⟨k, h1, h2⟩ | h1)
        · exact ⟨k, List.mem_append_left _ h1, h2⟩
        · exact ⟨kn, List.mem_append_right _ (List.mem_singleton.mpr rfl), by rw [h1]; exact hc⟩
      · rintro ⟨k, h1, h2⟩
        rcases List.mem_append.mp h1 with z | z
        · exact .inl ⟨k, z, h2⟩
        · rw [List.mem_singleton.mp z, hc] at h2
          exact .inr (Option.some.inj h2).symm
    rintro acc H2 ⟨rfl, Cs, pC, lC, hC⟩
    rw [lkv, List.take_length] at hC
    have sA3 := Same.upd (o := .lst acc) hA3
    refine ⟨A3, acc, Cs, rs, rfl, SqL.of upd_same, Paired.imp (fun _ _ z => ColE.tk sA3.tk z) pC, fun c hc r hr => ?_, hrl, hib, hnd, fun b4 T4 H13 s13 hB4 hV4 => ?_⟩
    · obtain ⟨k, hk, ek⟩ := (hC c).mp hc
      exact rowsIn k c ek r hr
    have eT : T4 = T3 := by
      refine (hB4.congr fun r => ?_).uniq hB3
      constructor
      · rintro ⟨c, hc, hr⟩
        obtain ⟨k, hk, ek⟩ := (hC c).mp hc
        exact ⟨c, hG.all k c (hks k hk) ek, hr⟩
      · rintro ⟨c, hc, hr⟩
        obtain ⟨p, hp, rfl⟩ := List.mem_map.mp hc
        obtain ⟨k, hk, ek⟩ := colR p hp
        exact ⟨p.2, (hC _).mpr ⟨k, hk, ek⟩, hr⟩
    subst eT
    refine ⟨colD T4, colD T4, (hV3.tk (sA3.trans s13).tk).isD, hV4.isD, lay_col T4 hV4.1, lay_col T4 hV4.1, Nat.le_trans (dep_col T4) (by decide), ?_⟩
    rw [col_eqv, decide_eq_true (rfl : T4 = T4)]
    exact q _
end
end My
open PySem PySem.W PyProof.Rows
set_option maxRecDepth 100000 in
set_option maxHeartbeats 0 in
theorem PySem.Challenge.cw_landroll_k37_whole_row_of_deeds_holds : PySem.Challenge.rw_landroll_k37_whole_row_of_deeds.Holds := by
  w_on; o_law; k_head; (case hw => w_witness2)
  k_fill
  refine L2.walk_ofK (l := PySem.Challenge.rw_landroll_k37_whole_row_of_deeds) (n := 63) (k := 8) (x := "_law_script") (CX := L2.CX0) (sp := My.sp_law) rfl (by decide) rfl ⟨rfl, by decide, by decide⟩ (fun w h Y => PySem.W.kIn_of Y) ?F ?S ?C
  case F =>
    intro w mg fa h KX G hmg
    have B : L2.Bn mg := by
      refine' L2.bn_mk KX G ?z0 ?z1 ?z2 ?z3 ?z4 ?z5 ?z6 ?z7 ?z8 ?z9 ?z10 ?z11 ?z12 ?z13
      (case z0 => k_is); (case z1 => k_is); (case z2 => k_is); (case z3 => k_is); (case z4 => k_is); (case z5 => k_is); (case z6 => k_is); (case z7 => k_is); (case z8 => k_is); (case z9 => k_is); (case z10 => k_is); (case z11 => k_is); (case z12 => k_is); (case z13 => k_is)
    have t_has : L2.Tx (L2.KOf KX) mg "has" My.s_has ["cells", "cell"] := by
      dsimp only [L2.KOf]
      refine' L2.tx_mk KX G ?a ?l ?c ?k (fun _ _ _ _ _ _ us hl => match us, hl with | [_, _], _ => rfl)
      (case a => k_is); (case l => k_is); (case c => k_is); (case k => k_is)
    have t_lowest : L2.Tx (L2.KOf KX) mg "lowest" My.s_lowest ["cells"] := by
      dsimp only [L2.KOf]
      refine' L2.tx_mk KX G ?a ?l ?c ?k (fun _ _ _ _ _ _ us hl => match us, hl with | [_], _ => rfl)
      (case a => k_is); (case l => k_is); (case c => k_is); (case k => k_is)
    have t_burdens_in : L2.Tx (L2.KOf KX) mg "burdens_in" My.s_burdens_in ["columns"] := by
      dsimp only [L2.KOf]
      refine' L2.tx_mk KX G ?a ?l ?c ?k (fun _ _ _ _ _ _ us hl => match us, hl with | [_], _ => rfl)
      (case a => k_is); (case l => k_is); (case c => k_is); (case k => k_is)
    have t_deepest : L2.Tx (L2.KOf KX) mg "deepest" My.s_deepest ["strips"] := by
      dsimp only [L2.KOf]
      refine' L2.tx_mk KX G ?a ?l ?c ?k (fun _ _ _ _ _ _ us hl => match us, hl with | [_], _ => rfl)
      (case a => k_is); (case l => k_is); (case c => k_is); (case k => k_is)
    have t_place_of : L2.Tx (L2.KOf KX) mg "place_of" My.s_place_of ["column", "number"] := by
      dsimp only [L2.KOf]
      refine' L2.tx_mk KX G ?a ?l ?c ?k (fun _ _ _ _ _ _ us hl => match us, hl with | [_, _], _ => rfl)
      (case a => k_is); (case l => k_is); (case c => k_is); (case k => k_is)
    have t_place_behind : L2.Tx (L2.KOf KX) mg "place_behind" My.s_place_behind ["column", "told"] := by
      dsimp only [L2.KOf]
      refine' L2.tx_mk KX G ?a ?l ?c ?k (fun _ _ _ _ _ _ us hl => match us, hl with | [_, _], _ => rfl)
      (case a => k_is); (case l => k_is); (case c => k_is); (case k => k_is)
    have t_lifted_from : L2.Tx (L2.KOf KX) mg "lifted_from" My.s_lifted_from ["column", "number"] := by
      dsimp only [L2.KOf]
      refine' L2.tx_mk KX G ?a ?l ?c ?k (fun _ _ _ _ _ _ us hl => match us, hl with | [_, _], _ => rfl)
      (case a => k_is); (case l => k_is); (case c => k_is); (case k => k_is)
    have t_law_cell_at : L2.Tx (L2.KOf KX) mg "_law_cell_at" My.s_law_cell_at ["_law_script", "_law_k"] := by
      dsimp only [L2.KOf]
      refine' L2.tx_mk KX G ?a ?l ?c ?k (fun _ _ _ _ _ _ us hl => match us, hl with | [_, _], _ => rfl)
      (case a => k_is); (case l => k_is); (case c => k_is); (case k => k_is)
    have t_law_whole : L2.Tx (L2.KOf KX) mg "_law_whole" My.s_law_whole ["_law_found"] := by
      dsimp only [L2.KOf]
      refine' L2.tx_mk KX G ?a ?l ?c ?k (fun _ _ _ _ _ _ us hl => match us, hl with | [_], _ => rfl)
      (case a => k_is); (case l => k_is); (case c => k_is); (case k => k_is)
    have t_law_stream : L2.Tx (L2.KOf KX) mg "_law_stream" My.s_law_stream ["_law_cell", "_law_many"] := by
      dsimp only [L2.KOf]
      refine' L2.tx_mk KX G ?a ?l ?c ?k (fun _ _ _ _ _ _ us hl => match us, hl with | [_, _], _ => rfl)
      (case a => k_is); (case l => k_is); (case c => k_is); (case k => k_is)
    have t_law_name : L2.Tx (L2.KOf KX) mg "_law_name" My.s_law_name ["_law_number_here"] := by
      dsimp only [L2.KOf]
      refine' L2.tx_mk KX G ?a ?l ?c ?k (fun _ _ _ _ _ _ us hl => match us, hl with | [_], _ => rfl)
      (case a => k_is); (case l => k_is); (case c => k_is); (case k => k_is)
    have t_law_spots : L2.Tx (L2.KOf KX) mg "_law_spots" My.s_law_spots ["_law_cell", "_law_many"] := by
      dsimp only [L2.KOf]
      refine' L2.tx_mk KX G ?a ?l ?c ?k (fun _ _ _ _ _ _ us hl => match us, hl with | [_, _], _ => rfl)
      (case a => k_is); (case l => k_is); (case c => k_is); (case k => k_is)
    have t_law_strips : L2.Tx (L2.KOf KX) mg "_law_strips" My.s_law_strips ["_law_ground"] := by
      dsimp only [L2.KOf]
      refine' L2.tx_mk KX G ?a ?l ?c ?k (fun _ _ _ _ _ _ us hl => match us, hl with | [_], _ => rfl)
      (case a => k_is); (case l => k_is); (case c => k_is); (case k => k_is)
    have t_law_has : L2.Tx (L2.KOf KX) mg "_law_has" My.s_law_has ["_law_cells", "_law_cell"] := by
      dsimp only [L2.KOf]
      refine' L2.tx_mk KX G ?a ?l ?c ?k (fun _ _ _ _ _ _ us hl => match us, hl with | [_, _], _ => rfl)
      (case a => k_is); (case l => k_is); (case c => k_is); (case k => k_is)
    have t_law_all : L2.Tx (L2.KOf KX) mg "_law_all" My.s_law_all ["_law_columns"] := by
      dsimp only [L2.KOf]
      refine' L2.tx_mk KX G ?a ?l ?c ?k (fun _ _ _ _ _ _ us hl => match us, hl with | [_], _ => rfl)
      (case a => k_is); (case l => k_is); (case c => k_is); (case k => k_is)
    have t_law_behind : L2.Tx (L2.KOf KX) mg "_law_behind" My.s_law_behind ["_law_column", "_law_burden", "_law_told"] := by
      dsimp only [L2.KOf]
      refine' L2.tx_mk KX G ?a ?l ?c ?k (fun _ _ _ _ _ _ us hl => match us, hl with | [_, _, _], _ => rfl)
      (case a => k_is); (case l => k_is); (case c => k_is); (case k => k_is)
    have t_law_filled : L2.Tx (L2.KOf KX) mg "_law_filled" My.s_law_filled ["_law_column", "_law_number_here", "_law_burden", "_law_within"] := by
      dsimp only [L2.KOf]
      refine' L2.tx_mk KX G ?a ?l ?c ?k (fun _ _ _ _ _ _ us hl => match us, hl with | [_, _, _, _], _ => rfl)
      (case a => k_is); (case l => k_is); (case c => k_is); (case k => k_is)
    have t_law_waived : L2.Tx (L2.KOf KX) mg "_law_waived" My.s_law_waived ["_law_column", "_law_number_here", "_law_ahead"] := by
      dsimp only [L2.KOf]
      refine' L2.tx_mk KX G ?a ?l ?c ?k (fun _ _ _ _ _ _ us hl => match us, hl with | [_, _, _], _ => rfl)
      (case a => k_is); (case l => k_is); (case c => k_is); (case k => k_is)
    have t_law_number : L2.Tx (L2.KOf KX) mg "_law_number" My.s_law_number ["_law_number_here", "_law_known", "_law_stranger"] := by
      dsimp only [L2.KOf]
      refine' L2.tx_mk KX G ?a ?l ?c ?k (fun _ _ _ _ _ _ us hl => match us, hl with | [_, _, _], _ => rfl)
      (case a => k_is); (case l => k_is); (case c => k_is); (case k => k_is)
    have t_lowest_of : L2.Tx (L2.KOf KX) mg "lowest_of" My.s_lowest_of ["strip"] := by
      dsimp only [L2.KOf]
      refine' L2.tx_mk KX G ?a ?l ?c ?k (fun _ _ _ _ _ _ us hl => match us, hl with | [_], _ => rfl)
      (case a => k_is); (case l => k_is); (case c => k_is); (case k => k_is)
    have t_column_at : L2.Tx (L2.KOf KX) mg "column_at" My.s_column_at ["strips", "cell"] := by
      dsimp only [L2.KOf]
      refine' L2.tx_mk KX G ?a ?l ?c ?k (fun _ _ _ _ _ _ us hl => match us, hl with | [_, _], _ => rfl)
      (case a => k_is); (case l => k_is); (case c => k_is); (case k => k_is)
    have t_burdens_on : L2.Tx (L2.KOf KX) mg "burdens_on" My.s_burdens_on ["strips"] := by
      dsimp only [L2.KOf]
      refine' L2.tx_mk KX G ?a ?l ?c ?k (fun _ _ _ _ _ _ us hl => match us, hl with | [_], _ => rfl)
      (case a => k_is); (case l => k_is); (case c => k_is); (case k => k_is)
    have t_laid_in : L2.Tx (L2.KOf KX) mg "laid_in" My.s_laid_in ["column", "burden", "told"] := by
      dsimp only [L2.KOf]
      refine' L2.tx_mk KX G ?a ?l ?c ?k (fun _ _ _ _ _ _ us hl => match us, hl with | [_, _, _], _ => rfl)
      (case a => k_is); (case l => k_is); (case c => k_is); (case k => k_is)
    have t_filled_in : L2.Tx (L2.KOf KX) mg "filled_in" My.s_filled_in ["column", "note", "burden"] := by
      dsimp only [L2.KOf]
      refine' L2.tx_mk KX G ?a ?l ?c ?k (fun _ _ _ _ _ _ us hl => match us, hl with | [_, _, _], _ => rfl)
      (case a => k_is); (case l => k_is); (case c => k_is); (case k => k_is)
    have t_passed_in : L2.Tx (L2.KOf KX) mg "passed_in" My.s_passed_in ["column", "number", "ahead"] := by
      dsimp only [L2.KOf]
      refine' L2.tx_mk KX G ?a ?l ?c ?k (fun _ _ _ _ _ _ us hl => match us, hl with | [_, _, _], _ => rfl)
      (case a => k_is); (case l => k_is); (case c => k_is); (case k => k_is)
    have t_law_pool : L2.Tx (L2.KOf KX) mg "_law_pool" My.s_law_pool ["_law_cell", "_law_many"] := by
      dsimp only [L2.KOf]
      refine' L2.tx_mk KX G ?a ?l ?c ?k (fun _ _ _ _ _ _ us hl => match us, hl with | [_, _], _ => rfl)
      (case a => k_is); (case l => k_is); (case c => k_is); (case k => k_is)
    have t_law_mask : L2.Tx (L2.KOf KX) mg "_law_mask" My.s_law_mask ["_law_cell", "_law_spots_here"] := by
      dsimp only [L2.KOf]
      refine' L2.tx_mk KX G ?a ?l ?c ?k (fun _ _ _ _ _ _ us hl => match us, hl with | [_, _], _ => rfl)
      (case a => k_is); (case l => k_is); (case c => k_is); (case k => k_is)
    have t_law_alike : L2.Tx (L2.KOf KX) mg "_law_alike" My.s_law_alike ["_law_found", "_law_due"] := by
      dsimp only [L2.KOf]
      refine' L2.tx_mk KX G ?a ?l ?c ?k (fun _ _ _ _ _ _ us hl => match us, hl with | [_, _], _ => rfl)
      (case a => k_is); (case l => k_is); (case c => k_is); (case k => k_is)
    have t_waived_in : L2.Tx (L2.KOf KX) mg "waived_in" My.s_waived_in ["column", "number", "ahead"] := by
      dsimp only [L2.KOf]
      refine' L2.tx_mk KX G ?a ?l ?c ?k (fun _ _ _ _ _ _ us hl => match us, hl with | [_, _, _], _ => rfl)
      (case a => k_is); (case l => k_is); (case c => k_is); (case k => k_is)
    have t_strips_of : L2.Tx (L2.KOf KX) mg "strips_of" My.s_strips_of ["pairs"] := by
      dsimp only [L2.KOf]
      refine' L2.tx_mk KX G ?a ?l ?c ?k (fun _ _ _ _ _ _ us hl => match us, hl with | [_], _ => rfl)
      (case a => k_is); (case l => k_is); (case c => k_is); (case k => k_is)
    have t_kept_on : L2.Tx (L2.KOf KX) mg "kept_on" My.s_kept_on ["strips", "cells"] := by
      dsimp only [L2.KOf]
      refine' L2.tx_mk KX G ?a ?l ?c ?k (fun _ _ _ _ _ _ us hl => match us, hl with | [_, _], _ => rfl)
      (case a => k_is); (case l => k_is); (case c => k_is); (case k => k_is)
    have t_together : L2.Tx (L2.KOf KX) mg "together" My.s_together ["one", "other"] := by
      dsimp only [L2.KOf]
      refine' L2.tx_mk KX G ?a ?l ?c ?k (fun _ _ _ _ _ _ us hl => match us, hl with | [_, _], _ => rfl)
      (case a => k_is); (case l => k_is); (case c => k_is); (case k => k_is)
    have t_laid : L2.TxD (L2.KOf KX) mg "laid" My.s_laid ["strips", "ground", "burden", "told"] [.none] := by
      dsimp only [L2.KOf]
      refine' L2.txD_mk KX G ?a ?l ?c ?k ?b1 ?b2
      (case a => k_is); (case l => k_is); (case c => k_is); (case k => k_is)
      (case b1 => exact fun us hl => match us, hl with | [_, _, _, _], _ => fun _ => rfl); (case b2 => intro us hl; obtain ⟨_, _, _, rfl⟩ := L2.three us hl; exact fun _ => rfl)
    have t_lifted : L2.Tx (L2.KOf KX) mg "lifted" My.s_lifted ["strips", "number"] := by
      dsimp only [L2.KOf]
      refine' L2.tx_mk KX G ?a ?l ?c ?k (fun _ _ _ _ _ _ us hl => match us, hl with | [_, _], _ => rfl)
      (case a => k_is); (case l => k_is); (case c => k_is); (case k => k_is)
    have t_filled : L2.Tx (L2.KOf KX) mg "filled" My.s_filled ["strips", "ground", "note", "burden"] := by
      dsimp only [L2.KOf]
      refine' L2.tx_mk KX G ?a ?l ?c ?k (fun _ _ _ _ _ _ us hl => match us, hl with | [_, _, _, _], _ => rfl)
      (case a => k_is); (case l => k_is); (case c => k_is); (case k => k_is)
    have t_waived : L2.Tx (L2.KOf KX) mg "waived" My.s_waived ["strips", "number", "ahead"] := by
      dsimp only [L2.KOf]
      refine' L2.tx_mk KX G ?a ?l ?c ?k (fun _ _ _ _ _ _ us hl => match us, hl with | [_, _, _], _ => rfl)
      (case a => k_is); (case l => k_is); (case c => k_is); (case k => k_is)
    have t_law_deed : L2.Tx (L2.KOf KX) mg "_law_deed" My.s_law_deed ["_law_ground", "_law_strips_here", "_law_xs", "_law_burden", "_law_stranger"] := by
      dsimp only [L2.KOf]
      refine' L2.tx_mk KX G ?a ?l ?c ?k (fun _ _ _ _ _ _ us hl => match us, hl with | [_, _, _, _, _], _ => rfl)
      (case a => k_is); (case l => k_is); (case c => k_is); (case k => k_is)
    have t_law : L2.Tx (L2.KOf KX) mg "law" My.s_law ["_law_script"] := by
      dsimp only [L2.KOf]
      refine' L2.tx_mk KX G ?a ?l ?c ?k (fun _ _ _ _ _ _ us hl => match us, hl with | [_], _ => rfl)
      (case a => k_is); (case l => k_is); (case c => k_is); (case k => k_is)
    obtain ⟨f, fd, F, b, hm⟩ := t_law.ex
    have e0 := hmg.symm.trans hm
    cases e0
    obtain ⟨oc, od, kV, doc, pm, an, cdv, ct, osl, rfl, lk, hcd⟩ := id F.ex
    refine ⟨PySem.W.fnOf "law" "law" (L2.defArgs My.s_law) (L2.defBody My.s_law) (L2.defScope My.s_law) .none kV doc pm an cdv ct, fun s u => .of_eq rfl, fun base kb nb => ?_⟩
    have d_has := My.ok_has (P := PySem.Challenge.rw_landroll_k37_whole_row_of_deeds.prog) (w := w) (base := base) t_has B
    have d_lowest := My.ok_lowest (P := PySem.Challenge.rw_landroll_k37_whole_row_of_deeds.prog) (w := w) (base := base) t_lowest B
    have d_burdens_in := My.ok_burdens_in (P := PySem.Challenge.rw_landroll_k37_whole_row_of_deeds.prog) (w := w) (base := base) t_burdens_in B
    have d_deepest := My.ok_deepest (P := PySem.Challenge.rw_landroll_k37_whole_row_of_deeds.prog) (w := w) (base := base) t_deepest B
    have d_place_of := My.ok_place_of (P := PySem.Challenge.rw_landroll_k37_whole_row_of_deeds.prog) (w := w) (base := base) t_place_of B
    have d_place_behind := My.ok_place_behind (P := PySem.Challenge.rw_landroll_k37_whole_row_of_deeds.prog) (w := w) (base := base) t_place_behind B
    have d_lifted_from := My.ok_lifted_from (P := PySem.Challenge.rw_landroll_k37_whole_row_of_deeds.prog) (w := w) (base := base) t_lifted_from B
    have d_law_cell_at := My.ok_law_cell_at (P := PySem.Challenge.rw_landroll_k37_whole_row_of_deeds.prog) (w := w) (base := base) t_law_cell_at B
    have d_law_whole := My.ok_law_whole (P := PySem.Challenge.rw_landroll_k37_whole_row_of_deeds.prog) (w := w) (base := base) t_law_whole B
    have d_law_stream := My.ok_law_stream (P := PySem.Challenge.rw_landroll_k37_whole_row_of_deeds.prog) (w := w) (base := base) t_law_stream B
    have d_law_name := My.ok_law_name (P := PySem.Challenge.rw_landroll_k37_whole_row_of_deeds.prog) (w := w) (base := base) t_law_name B
    have d_law_spots := My.ok_law_spots (P := PySem.Challenge.rw_landroll_k37_whole_row_of_deeds.prog) (w := w) (base := base) t_law_spots B
    have d_law_strips := My.ok_law_strips (P := PySem.Challenge.rw_landroll_k37_whole_row_of_deeds.prog) (w := w) (base := base) t_law_strips B
    have d_law_has := My.ok_law_has (P := PySem.Challenge.rw_landroll_k37_whole_row_of_deeds.prog) (w := w) (base := base) t_law_has B
    have d_law_all := My.ok_law_all (P := PySem.Challenge.rw_landroll_k37_whole_row_of_deeds.prog) (w := w) (base := base) t_law_all B
    have d_law_behind := My.ok_law_behind (P := PySem.Challenge.rw_landroll_k37_whole_row_of_deeds.prog) (w := w) (base := base) t_law_behind B
    have d_law_filled := My.ok_law_filled (P := PySem.Challenge.rw_landroll_k37_whole_row_of_deeds.prog) (w := w) (base := base) t_law_filled B
    have d_law_waived := My.ok_law_waived (P := PySem.Challenge.rw_landroll_k37_whole_row_of_deeds.prog) (w := w) (base := base) t_law_waived B
    have d_law_number := My.ok_law_number (P := PySem.Challenge.rw_landroll_k37_whole_row_of_deeds.prog) (w := w) (base := base) t_law_number B
    have d_lowest_of := My.ok_lowest_of (P := PySem.Challenge.rw_landroll_k37_whole_row_of_deeds.prog) (w := w) (base := base) t_lowest_of B d_lowest
    have d_column_at := My.ok_column_at (P := PySem.Challenge.rw_landroll_k37_whole_row_of_deeds.prog) (w := w) (base := base) t_column_at B d_has
    have d_burdens_on := My.ok_burdens_on (P := PySem.Challenge.rw_landroll_k37_whole_row_of_deeds.prog) (w := w) (base := base) t_burdens_on B d_burdens_in
    have d_laid_in := My.ok_laid_in (P := PySem.Challenge.rw_landroll_k37_whole_row_of_deeds.prog) (w := w) (base := base) t_laid_in B d_place_behind
    have d_filled_in := My.ok_filled_in (P := PySem.Challenge.rw_landroll_k37_whole_row_of_deeds.prog) (w := w) (base := base) t_filled_in B d_place_of
    have d_passed_in := My.ok_passed_in (P := PySem.Challenge.rw_landroll_k37_whole_row_of_deeds.prog) (w := w) (base := base) t_passed_in B d_place_of
    have d_law_pool := My.ok_law_pool (P := PySem.Challenge.rw_landroll_k37_whole_row_of_deeds.prog) (w := w) (base := base) t_law_pool B d_law_stream d_law_name
    have d_law_mask := My.ok_law_mask (P := PySem.Challenge.rw_landroll_k37_whole_row_of_deeds.prog) (w := w) (base := base) t_law_mask B d_law_stream
    have d_law_alike := My.ok_law_alike (P := PySem.Challenge.rw_landroll_k37_whole_row_of_deeds.prog) (w := w) (base := base) t_law_alike B d_law_whole
    have d_waived_in := My.ok_waived_in (P := PySem.Challenge.rw_landroll_k37_whole_row_of_deeds.prog) (w := w) (base := base) t_waived_in B d_passed_in d_place_of
    have d_strips_of := My.ok_strips_of (P := PySem.Challenge.rw_landroll_k37_whole_row_of_deeds.prog) (w := w) (base := base) t_strips_of B d_lowest_of
    have d_kept_on := My.ok_kept_on (P := PySem.Challenge.rw_landroll_k37_whole_row_of_deeds.prog) (w := w) (base := base) t_kept_on B d_strips_of
    have d_together := My.ok_together (P := PySem.Challenge.rw_landroll_k37_whole_row_of_deeds.prog) (w := w) (base := base) t_together B d_strips_of
    have D_laid := My.ok_laid (P := PySem.Challenge.rw_landroll_k37_whole_row_of_deeds.prog) (w := w) (base := base) t_laid B d_strips_of d_laid_in
    have d_lifted := My.ok_lifted (P := PySem.Challenge.rw_landroll_k37_whole_row_of_deeds.prog) (w := w) (base := base) t_lifted B d_strips_of d_lifted_from
    have d_filled := My.ok_filled (P := PySem.Challenge.rw_landroll_k37_whole_row_of_deeds.prog) (w := w) (base := base) t_filled B d_strips_of d_filled_in d_lifted_from
    have d_waived := My.ok_waived (P := PySem.Challenge.rw_landroll_k37_whole_row_of_deeds.prog) (w := w) (base := base) t_waived B d_strips_of d_waived_in
    have d_law_deed := My.ok_law_deed (P := PySem.Challenge.rw_landroll_k37_whole_row_of_deeds.prog) (w := w) (base := base) t_law_deed B d_law_all d_law_mask d_law_number d_together d_law_has D_laid d_lifted d_filled d_waived d_kept_on d_law_behind d_law_filled d_law_waived
    exact My.ok_law F B d_law_pool d_law_spots d_law_strips d_deepest d_law_cell_at d_law_deed d_burdens_on d_law_all d_law_stream d_law_alike d_law_whole d_column_at
  case S => exact fun K H a ns hl hO hS => ⟨a, ns, rfl, hS, hl, fun _ => rfl⟩
  case C => exact fun _ _ _ _ h => h
#print axioms PySem.Challenge.cw_landroll_k37_whole_row_of_deeds_holds
