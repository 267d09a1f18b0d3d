import PyProof.Rows.All
import Wide.All
import OpenK.AllK
import Wide.FinOn
import Lean
import PyProof.EqAt
import PyProof.EqKinds
import PyProof.TupleCall
import KE.KTops
import KE.KIntText
import KE.KTryMore
import PyProof.ExcBaseAll.ValueError
import PyProof.Rows.SetFrom
import PyProof.ZipIter
import KE.KTurns
import KE.KxText
import PyProof.Rows.SumGenD
import PySem.Challenge.RW_madeagain_k38_no_read
set_option Elab.async false
set_option linter.all false
set_option maxRecDepth 100000
/-! THE HAND LAYER, for ints, bools, texts, own classes, LISTS and tuples (index, slices, in, append, pop ..), calls, loops. Paste it whole ahead of your own text; what your proof does not reach may be deleted. -/
namespace L2
open PySem PySem.Spec PyProof.Rows

/-- a key: an int or a str -/
noncomputable abbrev Key := Sum Int Str
noncomputable def keyIs : Key → Value → Bool
  | .inl k, v => Value.isInt k v
  | .inr x, v => Value.isStrOf x v
noncomputable def keyH (w : World) : Key → Int
  | .inl k => hashInt k
  | .inr x => hashStr w x
theorem keyIs_shape : ∀ {k : Key} {v : Value}, keyIs k v = true → (∃ i t, k = Sum.inl i ∧ v = Value.int i t) ∨ (∃ x t, k = Sum.inr x ∧ v = Value.str x t)
  | .inl i, v, h => by
    obtain ⟨t, e⟩ := Value.isInt_shape (k := i) (v := v) h
    exact .inl ⟨i, t, rfl, e⟩
  | .inr x, v, h => by
    obtain ⟨t, e⟩ := Value.isStrOf_shape (x := x) (v := v) h
    exact .inr ⟨x, t, rfl, e⟩
theorem keyIs_int (i : Int) (t : Tok) : keyIs (.inl i) (.int i t) = true := by simp [keyIs, Value.isInt]
theorem keyIs_str (x : Str) (t : Tok) : keyIs (.inr x) (.str x t) = true := by simp [keyIs, Value.isStrOf]
theorem key_ll (a b : Int) : decide ((Sum.inl a : Key) = Sum.inl b) = (a == b) := by
  by_cases e : a = b
  · subst e; simp
  · have h : ¬ (Sum.inl a : Key) = Sum.inl b := fun q => e (Sum.inl.inj q)
    rw [decide_eq_false h]
    exact (beq_eq_false_iff_ne.mpr e).symm
theorem key_rr (a b : Str) : decide ((Sum.inr a : Key) = Sum.inr b) = decide (a = b) := by
  by_cases e : a = b
  · subst e; simp
  · have h : ¬ (Sum.inr a : Key) = Sum.inr b := fun q => e (Sum.inr.inj q)
    rw [decide_eq_false h, decide_eq_false e]
theorem key_lr (a : Int) (b : Str) : decide ((Sum.inl a : Key) = Sum.inr b) = false := decide_eq_false (fun q => nomatch q)
theorem key_rl (a : Str) (b : Int) : decide ((Sum.inr a : Key) = Sum.inl b) = false := decide_eq_false (fun q => nomatch q)

noncomputable def mixKind (prog : Program) (w : World) : PySem.KeyKind prog w Key where
  is := keyIs
  hash := keyH w
  inj := fun v a b ha hb => by
    rcases keyIs_shape ha with ⟨i, t, rfl, rfl⟩ | ⟨x, t, rfl, rfl⟩
    · rcases keyIs_shape hb with ⟨j, u, rfl, e⟩ | ⟨y, u, rfl, e⟩
      · injection e with e1 _; rw [e1]
      · exact nomatch e
    · rcases keyIs_shape hb with ⟨j, u, rfl, e⟩ | ⟨y, u, rfl, e⟩
      · exact nomatch e
      · injection e with e1 _; rw [e1]
  byValue := fun k v h => by
    rcases keyIs_shape h with ⟨i, t, rfl, rfl⟩ | ⟨x, t, rfl, rfl⟩ <;> rfl
  pyHash := fun hv h => by
    rcases keyIs_shape hv with ⟨i, t, rfl, rfl⟩ | ⟨x, t, rfl, rfl⟩
    · exact wpAny_pyHash_int h
    · exact wpAny_pyHash_str h
  eqBool := fun hu hv h => by
    rcases keyIs_shape hu with ⟨i, t, rfl, rfl⟩ | ⟨x, t, rfl, rfl⟩
    · rcases keyIs_shape hv with ⟨j, u, rfl, rfl⟩ | ⟨y, u, rfl, rfl⟩
      · rw [key_ll] at h; exact wpAny_eqBool_int h
      · rw [key_lr] at h; exact SeqAt.EqAt.int_str i t y u _ _ _ _ h
    · rcases keyIs_shape hv with ⟨j, u, rfl, rfl⟩ | ⟨y, u, rfl, rfl⟩
      · rw [key_rl] at h; exact SeqAt.EqAt.str_int x t j u _ _ _ _ h
      · rw [key_rr] at h; exact wpAny_eqBool_str h
  «strs» := fun k x t v h => by
    rcases keyIs_shape h with ⟨i, u, rfl, e⟩ | ⟨y, u, rfl, e⟩
    · exact nomatch e
    · injection e with e1 _
      subst e1
      cases v <;> rfl

theorem mixKind_int (prog : Program) (w : World) (i : Int) (t : Tok) : (mixKind prog w).is (.inl i) (.int i t) = true := keyIs_int i t
theorem mixKind_str (prog : Program) (w : World) (x : Str) (t : Tok) : (mixKind prog w).is (.inr x) (.str x t) = true := keyIs_str x t
end L2

namespace L2
open PySem PySem.Spec PyProof.Rows

/-- a value, without the heap -/
inductive V where
  | non | bl (b : Bool) | int (i : Int) | str (x : Str) | byt (b : Array UInt8) | flt (b : UInt64) | ref (a : Addr) | ty (n : String)
  deriving DecidableEq

noncomputable def RelV : V → Value → Prop
  | .non, u => u = Value.none
  | .bl b, u => u = Value.bool b
  | .int i, u => ∃ t, u = Value.int i t
  | .str x, u => ∃ t, u = Value.str x t
  | .byt b, u => ∃ t, u = Value.bytes b t
  | .flt b, u => ∃ t, u = Value.float b t
  | .ref a, u => u = Value.ref a
  | .ty n, u => u = Value.type n

noncomputable abbrev Vals : List V → List Value → Prop := Paired RelV
theorem Vals.length {xs : List V} {us : List Value} (r : Vals xs us) : xs.length = us.length := Paired.length r
theorem Vals.get : ∀ {xs : List V} {us : List Value} {i : Nat} {x : V}, Vals xs us → xs[i]? = some x → ∃ u, us[i]? = some u ∧ RelV x u
  | _, _, _, _, .nil, e => by simp at e
  | _, _, 0, _, .cons r _, e => by simp at e; subst e; exact ⟨_, rfl, r⟩
  | _, _, i + 1, x, .cons _ t, e => by
    obtain ⟨u, h1, h2⟩ := Vals.get (i := i) (x := x) t (by simpa using e)
    exact ⟨u, by simpa using h1, h2⟩
theorem Vals.append : ∀ {xs ys : List V} {us ws : List Value}, Vals xs us → Vals ys ws → Vals (xs ++ ys) (us ++ ws)
  | _, _, _, _, .nil, s => s
  | _, _, _, _, .cons r t, s => .cons r (Vals.append t s)
theorem Vals.take : ∀ {xs : List V} {us : List Value} (n : Nat), Vals xs us → Vals (xs.take n) (us.take n)
  | _, _, 0, _ => .nil
  | _, _, _ + 1, .nil => .nil
  | _, _, n + 1, .cons r t => .cons r (Vals.take n t)
theorem Vals.drop : ∀ {xs : List V} {us : List Value} (n : Nat), Vals xs us → Vals (xs.drop n) (us.drop n)
  | _, _, 0, r => r
  | _, _, _ + 1, .nil => .nil
  | _, _, n + 1, .cons _ t => Vals.drop n t

noncomputable def RelO : Option V → Option Value → Prop
  | some v, some u => RelV v u
  | none, none => True
  | _, _ => False
noncomputable def KV {κ : Type} : List (κ × V) → List (κ × Value) → Prop := Paired fun (p : κ × V) (q : κ × Value) => p.1 = q.1 ∧ RelV p.2 q.2

/-- a key of a dict (00_mix): an int or a text -/
noncomputable def kV : Key → V
  | .inl i => .int i
  | .inr x => .str x

/-- what stands at a tracked address -/
inductive HO where
  /-- a list -/
  | lst (xs : List V)
  /-- a tuple (never changes) -/
  | tup (xs : List V)
  /-- a dict whose keys are ints and texts; one whose keys are tuples of ints and texts (the empty one is both) -/
  | dK (kvs : List (Key × V)) | dT (kvs : List (List Key × V))
  /-- a set of ints: its members, its size -/
  | set (S : Int → Bool) (n : Nat)
  /-- an instance of the class at C, its dict at dx, its attributes -/
  | ins (C dx : Addr) (fs : List (Str × V))
  /-- the dict of the instance at x -/
  | own (x : Addr)
  /-- the dict of an exception -/
  | xd (fs : List (Str × V))
  /-- a bound method, f of x -/
  | met (f x : Addr)
  /-- a range object lo, lo + 1, .. below hi -/
  | rng (lo hi : Int)
  /-- a thing that is known to the object (the script; a dict while a loop walks it): read, never written while it is so -/
  | frz (o : Obj) (u : HO)
  /-- a code object's table -/
  | tbl (ps : Array Value)
  /-- any other thing, by what is true of its one object (a def of one's own: SetO a S n := HO.ext fun h => ..) -/
  | ext (φ : Heap → Prop)

noncomputable abbrev Hp := Addr → Option HO
noncomputable def upd (H : Hp) (a : Addr) (o : HO) : Hp := fun b => if b = a then some o else H b
theorem upd_same {H : Hp} {a : Addr} {o : HO} : upd H a o a = some o := by unfold upd; rw [if_pos rfl]
theorem upd_ne {H : Hp} {a b : Addr} {o : HO} (h : b ≠ a) : upd H a o b = H b := by unfold upd; rw [if_neg h]
/-- two objects of different content stand apart -/
theorem ne_of {H : Hp} {a b : Addr} {o u : HO} (h : H a = some o) (h' : H b = some u) (d : o ≠ u) : a ≠ b := by
  intro e; subst e; rw [h] at h'; exact d (Option.some.inj h')
theorem ne_of_none {H : Hp} {a b : Addr} {o : HO} (h : H a = some o) (h' : H b = none) : a ≠ b := by
  intro e; subst e; rw [h] at h'; cases h'

section
variable (P : Program) (w : World)
noncomputable def ObjOk (H : Hp) (h : Heap) (a : Addr) : HO → Prop
  | .lst xs => xs.length ≤ sizeLine ∧ ∃ (its : List Value) (n : Nat), Vals xs its ∧ h.get? a = some { cls := .type "list", data := .seq its.toArray n }
  | .tup xs => xs.length ≤ sizeLine ∧ ∃ its : List Value, Vals xs its ∧ IsTup h a its.toArray
  | .dK kvs => kvs.length ≤ sizeLine ∧ (a == sysModules) = false ∧ ∃ vs, KV kvs vs ∧ h.DictOf (mixKind P w) a vs
  | .dT kvs => kvs.length ≤ sizeLine ∧ (a == sysModules) = false ∧ ∃ xs : List (List Key × Addr × Value),
      Paired (fun (p : List Key × V) (q : List Key × Addr × Value) => p.1 = q.1 ∧ H q.2.1 = some (.tup (p.1.map kV)) ∧ RelV p.2 q.2.2) kvs xs ∧
      ∃ o es ep, h.get? a = some o ∧ o.ExactDict ∧ o.data = .dict es ep ∧ es.toList = xs.map (entryOfKey (tupleKind (mixKind P w))) ∧ (xs.map (·.1)).Nodup
  | .set S n => h.SetOf (intKind P w) a S n
  | .ins C dx fs => H dx = some (.own a) ∧ fs.length ≤ 1000 ∧ dx ≠ a ∧ h.get? a = some (PySem.W.instObj C dx) ∧
      ∃ mA, h.Ns1 dx mA ∧ (∀ f, RelO (fs.lookup f) (mA f)) ∧ PySem.Within mA (fs.map (·.1))
  | .own _ => ∃ o, h.get? a = some o
  | .xd fs => ∃ mA, h.Ns1 a mA ∧ ∀ f, RelO (fs.lookup f) (mA f)
  | .rng lo hi => ∃ t u v, h.get? a = some { cls := .type "range", data := .fields #[.int lo t, .int hi u, .int 1 v] }
  | .frz o u => h.get? a = some o ∧ ObjOk H h a u
  | .tbl ps => h.get? a = some { cls := .none, data := .fields ps }
  | .met f x => h.get? a = some (PySem.W.methodObj (.ref f) (.ref x))
  | .ext φ => φ h ∧ (∃ o, h.get? a = some o) ∧ ∀ h1 h2 : Heap, φ h1 → (∀ o, h1.get? a = some o → h2.get? a = some o) → φ h2
/-- the abstract heap is held -/
noncomputable def HOk (H : Hp) (h : Heap) : Prop := ∀ a o, H a = some o → ObjOk P w H h a o
end

section
variable {P : Program} {w : World} {H H' : Hp} {h h' : Heap} {a : Addr} {o : HO}
theorem ObjOk.lt (x : ObjOk P w H h a o) : a < h.objs.size := by
  cases o with
  | lst xs => obtain ⟨_, _, _, _, e⟩ := x; exact Heap.lt_size e
  | tup xs => obtain ⟨_, _, _, p⟩ := x; exact p.lt
  | dK kvs => obtain ⟨_, _, _, _, o, _, _, e, _⟩ := x; exact Heap.lt_size e
  | dT kvs => obtain ⟨_, _, _, _, o, _, _, e, _⟩ := x; exact Heap.lt_size e
  | set S n => obtain ⟨o, _, _, _, e, _⟩ := x; exact Heap.lt_size e
  | ins C dx fs => obtain ⟨_, _, _, e, _⟩ := x; exact Heap.lt_size e
  | own y => obtain ⟨_, e⟩ := x; exact Heap.lt_size e
  | xd fs => obtain ⟨_, ⟨_, _, _, e, _⟩, _⟩ := x; exact Heap.lt_size e
  | rng lo hi => obtain ⟨_, _, _, e⟩ := x; exact Heap.lt_size e
  | frz ob u => obtain ⟨e, _⟩ := x; exact Heap.lt_size e
  | tbl ps => exact Heap.lt_size (show h.get? a = some _ from x)
  | met f y => exact Heap.lt_size (show h.get? a = some _ from x)
  | ext φ => obtain ⟨_, ⟨_, e⟩, _⟩ := x; exact Heap.lt_size e
theorem Paired.mapP {α β : Type} {F G : α → β → Prop} : ∀ {l₁ : List α} {l₂ : List β}, Paired F l₁ l₂ → (∀ a b, F a b → G a b) → Paired G l₁ l₂
  | _, _, .nil, _ => .nil
  | _, _, .cons r t, f => .cons (f _ _ r) (Paired.mapP t f)
/-- what an object's description leans on: its own object, its own dict, the tuples -/
theorem ObjOk.stay (x : ObjOk P w H h a o) (k : ∀ b u, (b = a ∨ H b = some (.own a)) → h.get? b = some u → h'.get? b = some u)
    (ho : ∀ b, H b = some (.own a) → H' b = some (.own a)) (ht : ∀ b xs, H b = some (.tup xs) → H' b = some (.tup xs)) : ObjOk P w H' h' a o := by
  induction o with
  | lst xs => obtain ⟨z, its, n, r, e⟩ := x; exact ⟨z, its, n, r, k _ _ (.inl rfl) e⟩
  | tup xs => obtain ⟨z, its, r, ob, e, c⟩ := x; exact ⟨z, its, r, ob, k _ _ (.inl rfl) e, c⟩
  | dK kvs => obtain ⟨z, y, vs, r, ob, es, ep, e, c⟩ := x; exact ⟨z, y, vs, r, ob, es, ep, k _ _ (.inl rfl) e, c⟩
  | dT kvs =>
    obtain ⟨z, y, xs, r, ob, es, ep, e, c⟩ := x
    exact ⟨z, y, xs, Paired.mapP r fun p q z => ⟨z.1, ht _ _ z.2.1, z.2.2⟩, ob, es, ep, k _ _ (.inl rfl) e, c⟩
  | set S n => obtain ⟨ob, es, ep, t, e, c⟩ := x; exact ⟨ob, es, ep, t, k _ _ (.inl rfl) e, c⟩
  | ins C dx fs =>
    obtain ⟨d, z, ne, e, mA, ⟨od, es, ep, e2, c⟩, r⟩ := x
    exact ⟨ho _ d, z, ne, k _ _ (.inl rfl) e, mA, ⟨od, es, ep, k _ _ (.inr d) e2, c⟩, r⟩
  | own y => obtain ⟨ob, e⟩ := x; exact ⟨ob, k _ _ (.inl rfl) e⟩
  | xd fs => obtain ⟨mA, ⟨od, es, ep, e, c⟩, r⟩ := x; exact ⟨mA, ⟨od, es, ep, k _ _ (.inl rfl) e, c⟩, r⟩
  | rng lo hi => obtain ⟨t, u, v, e⟩ := x; exact ⟨t, u, v, k _ _ (.inl rfl) e⟩
  | frz ob u ih => obtain ⟨e, q⟩ := x; exact ⟨k _ _ (.inl rfl) e, ih q⟩
  | tbl ps =>
    have e : h.get? a = some { cls := .none, data := .fields ps } := x
    show h'.get? a = some { cls := .none, data := .fields ps }
    exact k a _ (.inl rfl) e
  | met f y =>
    have e : h.get? a = some (PySem.W.methodObj (.ref f) (.ref y)) := x
    show h'.get? a = some (PySem.W.methodObj (.ref f) (.ref y))
    exact k a _ (.inl rfl) e
  | ext φ => obtain ⟨p, ⟨o, e⟩, st⟩ := x; exact ⟨st _ _ p fun o q => k _ _ (.inl rfl) q, ⟨o, k _ _ (.inl rfl) e⟩, st⟩
theorem HOk.lt (x : HOk P w H h) (e : H a = some o) : a < h.objs.size := (x a o e).lt
theorem HOk.fresh (x : HOk P w H h) (e : h.objs.size ≤ a) : H a = none := by
  cases q : H a with
  | none => rfl
  | some u => exact absurd (Nat.lt_of_lt_of_le (x.lt q) e) (Nat.lt_irrefl _)
/-- every object of the heap is kept -/
theorem HOk.kept (x : HOk P w H h) (k : ∀ b u, h.get? b = some u → h'.get? b = some u) : HOk P w H h' := fun a o e =>
  (x a o e).stay (fun b u _ q => k b u q) (fun _ q => q) fun _ _ q => q
/-- a new object is laid and tracked -/
theorem HOk.laid (x : HOk P w H h) (k : ∀ b u, h.get? b = some u → h'.get? b = some u) (hp : h.objs.size ≤ a) (new : ObjOk P w (upd H a o) h' a o) : HOk P w (upd H a o) h' := fun b u e => by
  have hn := x.fresh hp
  by_cases hb : b = a
  · subst hb; rw [upd_same] at e; cases e; exact new
  · rw [upd_ne hb] at e
    exact (x b u e).stay (fun c v _ q => k c v q) (fun c q => by rw [upd_ne (ne_of_none q hn)]; exact q) fun c xs q => by rw [upd_ne (ne_of_none q hn)]; exact q
end

/-- what may be read as u: it is u, or a known u -/
noncomputable def Rd (H : Hp) (a : Addr) (u : HO) : Prop := H a = some u ∨ ∃ o, H a = some (.frz o u)
theorem Rd.ok {P : Program} {w : World} {H : Hp} {h : Heap} {a : Addr} {u : HO} (r : Rd H a u) (x : HOk P w H h) : ObjOk P w H h a u := by
  rcases r with r | ⟨o, r⟩
  · exact x a u r
  · obtain ⟨_, q⟩ := x a _ r
    exact q
/-- what may be written -/
noncomputable def Mut : Option HO → Prop
  | some (.lst _) => True
  | some (.dK _) => True
  | some (.dT _) => True
  | some (.set _ _) => True
  | some (.ins _ _ _) => True
  | some (.ext _) => True
  | _ => False
section
variable {P : Program} {w : World} {H : Hp} {h h' : Heap} {x e : Addr} {o' : HO}
/-- the object at e is changed: x itself, or the dict of the instance x -/
theorem HOk.write (ok : HOk P w H h) (mu : Mut (H x)) (he : e = x ∨ H e = some (.own x)) (k : ∀ b u, b ≠ e → h.get? b = some u → h'.get? b = some u) (heo : ∃ u, h'.get? e = some u)
    (new : ObjOk P w (upd H x o') h' x o') : HOk P w (upd H x o') h' := fun b u q => by
  have nown : ∀ c y, H c = some (.own y) → c ≠ x := fun c y r z => by subst z; rw [r] at mu; exact mu
  have ntup : ∀ c xs, H c = some (.tup xs) → c ≠ x := fun c xs r z => by subst z; rw [r] at mu; exact mu
  by_cases hb : b = x
  · subst hb; rw [upd_same] at q; cases q; exact new
  · rw [upd_ne hb] at q
    by_cases hbe : b = e
    · have q' : H b = some (.own x) := by
        rcases he with z | z
        · exact absurd (hbe.trans z) hb
        · rw [hbe]; exact z
      rw [q] at q'; cases q'
      obtain ⟨v, hv⟩ := heo
      exact ⟨v, by rw [hbe]; exact hv⟩
    · refine (ok b u q).stay (fun c v hc r => k c v ?_ r) (fun c r => by rw [upd_ne (nown c b r)]; exact r) fun c xs r => by rw [upd_ne (ntup c xs r)]; exact r
      rcases hc with rfl | hc
      · exact hbe
      · rintro rfl
        rcases he with z | z
        · exact nown c b hc z
        · rw [hc] at z; cases z; exact hb rfl
end

/-! ### kept unless tracked; of the frames at fs (the callers') the slots may change (an exception that passes writes there); of the records at ex (iterators) nothing is said -/
structure Un (fs ex : List Addr) (H H' : Hp) (h h' : Heap) : Prop where
  keep : ∀ b o, h.get? b = some o → H b = none → b ∉ fs → b ∉ ex → h'.get? b = some o
  slot : ∀ b o, h.get? b = some o → H b = none → b ∈ fs → b ∉ ex → ∃ sl, h'.get? b = some { o with slots := sl }
  free : ∀ b o, h.get? b = some o → H b = none → b ∉ ex → H' b = none
  there : ∀ b o, h.get? b = some o → b ∉ ex → ∃ o', h'.get? b = some o'
  tups : ∀ b xs, H b = some (.tup xs) → H' b = some (.tup xs)
  frzs : ∀ b o u, H b = some (.frz o u) → H' b = some (.frz o u)
  tbls : ∀ b ps, H b = some (.tbl ps) → ∃ more, H' b = some (.tbl (ps ++ more))
section
variable {fs fs' ex ex' : List Addr} {H H1 H2 : Hp} {h h1 h2 h' : Heap} {a x e : Addr} {o : HO}
theorem Un.any (u : Un fs ex H H1 h h1) {b : Addr} {ob : Obj} (q : h.get? b = some ob) (n : H b = none) (hx : b ∉ ex) : ∃ sl, h1.get? b = some { ob with slots := sl } := by
  by_cases hb : b ∈ fs
  · exact u.slot b ob q n hb hx
  · exact ⟨ob.slots, u.keep b ob q n hb hx⟩
theorem Un.kept (k : ∀ b u, h.get? b = some u → h'.get? b = some u) : Un fs ex H H h h' :=
  ⟨fun b ob q _ _ _ => k b ob q, fun b ob q _ _ _ => ⟨ob.slots, k b ob q⟩, fun _ _ _ n _ => n, fun b ob q _ => ⟨ob, k b ob q⟩, fun _ _ q => q, fun _ _ _ q => q, fun _ ps q => ⟨#[], by rw [q]; simp⟩⟩
theorem Un.refl : Un fs ex H H h h := Un.kept fun _ _ q => q
theorem Un.laid (k : ∀ b u, h.get? b = some u → h'.get? b = some u) (hp : h.objs.size ≤ a) (hn : H a = none) : Un fs ex H (upd H a o) h h' where
  keep := fun b u q _ _ _ => k b u q
  slot := fun b u q _ _ _ => ⟨u.slots, k b u q⟩
  free := fun b u q n _ => by rw [upd_ne (Nat.ne_of_lt (Nat.lt_of_lt_of_le (Heap.lt_size q) hp))]; exact n
  there := fun b u q _ => ⟨u, k b u q⟩
  tups := fun b xs q => by rw [upd_ne (ne_of_none q hn)]; exact q
  frzs := fun b u xs q => by rw [upd_ne (ne_of_none q hn)]; exact q
  tbls := fun b ps q => ⟨#[], by rw [upd_ne (ne_of_none q hn), q]; simp⟩
theorem Un.write (mu : Mut (H x)) (he : e = x ∨ H e = some (.own x)) (k : ∀ b u, b ≠ e → h.get? b = some u → h'.get? b = some u) (heo : ∃ u, h'.get? e = some u) : Un fs ex H (upd H x o) h h' := by
  have hx : ∀ b, H b = none → b ≠ x := fun b n z => by subst z; rw [n] at mu; exact mu
  have hb : ∀ b, H b = none → b ≠ e := fun b n z => by
    subst z
    rcases he with r | r
    · exact hx b n r
    · rw [n] at r; cases r
  have hm : ∀ b u, H b = some u → ¬ Mut (some u) → b ≠ x := fun b u q nm z => by subst z; rw [q] at mu; exact nm mu
  refine ⟨fun b u q n _ _ => k b u (hb b n) q, fun b u q n _ _ => ⟨u.slots, k b u (hb b n) q⟩, fun b u q n _ => by rw [upd_ne (hx b n)]; exact n, fun b u q _ => ?_,
    fun b xs q => by rw [upd_ne (hm b _ q fun z => z)]; exact q, fun b u xs q => by rw [upd_ne (hm b _ q fun z => z)]; exact q, fun b ps q => ⟨#[], by rw [upd_ne (hm b _ q fun z => z), q]; simp⟩⟩
  by_cases hbe : b = e
  · subst hbe; exact heo
  · exact ⟨u, k b u hbe q⟩
end

/-! ### the heap without what is tracked -/
noncomputable def trk (h : Heap) (H : Hp) : List Addr := (List.range h.objs.size).filter fun a => (H a).isSome
noncomputable def hidT (h : Heap) (H : Hp) : Heap := PySem.W.hideAll h (trk h H)
theorem hidT_size (h : Heap) (H : Hp) : (hidT h H).objs.size = h.objs.size := PySem.W.hideAll_size _ _
theorem hidT_get {h : Heap} {H : Hp} {b : Addr} {o : Obj} (e : h.get? b = some o) (n : H b = none) : (hidT h H).get? b = some o :=
  PySem.W.hideAll_get _ e fun hm => by
    have q : (H b).isSome = true := (List.mem_filter.mp hm).2
    rw [n] at q; simp at q
theorem of_hidT {h : Heap} {H : Hp} {b : Addr} {o : Obj} (e : (hidT h H).get? b = some o) : h.get? b = some o ∧ H b = none := by
  have e' : h.get? b = some o := PySem.W.of_hideAll (trk h H) e
  refine ⟨e', ?_⟩
  cases q : H b with
  | none => rfl
  | some x =>
    have hm : b ∈ trk h H := List.mem_filter.mpr ⟨List.mem_range.mpr (Heap.lt_size e'), by simp [q]⟩
    have z : (hidT h H).get? b = none := PySem.W.hideAll_none (trk h H) hm
    rw [z] at e; cases e

/-! ### OpenK's ledger, filled with every new object but one -/
end L2

namespace L2
open PySem PySem.Spec PyProof.Rows

/-- the module's facts, over the base: the heap at the law's entry without what is tracked there -/
structure Mod (K : PySem.W.Frag) (mg : Str → Option Value) (base : Heap) : Prop where
  kin : K.In base
  glob : base.Ns mainGlobals mg
  blt : ∃ mb, base.Ns builtinsNs mb ∧ ∀ x : Str, x ≠ "__name__" → mb x = bootBuiltins x
  nolimit : base.NoLimit

/-- the context: a def's body (or a comprehension's block) running. base: fixed through the whole law; s₀, H₀: the entry; outer: the frames whose slots others may change (a def's callers); stack: all frames that run;
   ex: iterators that were made ahead of the entry and are walked here (a comprehension's); fn: the names whose cells were made at the entry (a def: all; a comprehension's block: its own); calm: not within an except suite; pn: pins that every state bears; xe: what is wanted of an exception that leaves the code -/
structure Cx where
  prog : Program
  w : World
  K : PySem.W.Frag
  mg : Str → Option Value
  base : Heap
  A : Around
  N : List Str
  s₀ : Shared
  H₀ : Hp
  env : Env
  outer : List Env
  stack : List Env
  ex : List Addr
  fn : Str → Bool
  calm : Bool
  pn : List (Addr × Obj)
  xe : Value → Shared → Prop
/-- the callers' frames -/
noncomputable def frs (l : List Env) : List Addr := l.filterMap (·.frame)
noncomputable abbrev Cx.fs (X : Cx) : List Addr := frs X.outer

noncomputable def Vis (sc : Scope) (x : Str) : Prop := sc.names.lookup x = some .local ∨ sc.names.lookup x = some .cell ∨ sc.names.lookup x = some .free
noncomputable def Loc (sc : Scope) (x : Str) : Prop := sc.names.lookup x = some .local ∨ sc.names.lookup x = some .cell
noncomputable def Look (env : Env) (h : Heap) (m : Str → Option Value) (x : Str) (u : Value) : Prop :=
  (env.kindOf x = some .local ∧ m x = some u) ∨ ((env.kindOf x = some .cell ∨ env.kindOf x = some .free) ∧ ∃ c, env.cells.lookup x = some c ∧ h.IsCell c (some u))

structure Cx.Ok (X : Cx) : Prop where
  mod : Mod X.K X.mg X.base
  kind : X.env.scope.kind = .function
  glob : X.env.globals = mainGlobals
  blt : X.env.builtins = builtinsNs
  above : X.s₀.heap.objs.size ≤ X.env.locals
  inj : ∀ x y c, X.env.cells.lookup x = some c → X.env.cells.lookup y = some c → x = y
  has : ∀ x, (X.env.kindOf x = some .cell ∨ X.env.kindOf x = some .free) → ∃ c, X.env.cells.lookup x = some c
  cab : ∀ x c, X.fn x = true → X.env.cells.lookup x = some c → X.s₀.heap.objs.size ≤ c
  hd : X.calm = true → X.A.handled = none
  frames : X.A.frames = some X.stack
  stk : X.stack = X.outer ∨ (X.stack = X.env :: X.outer ∧ X.env.frame = some X.env.locals)
  exf : ∀ b ∈ X.ex, b ≠ X.env.locals ∧ ∀ x c, X.env.cells.lookup x = some c → c ≠ b
  bs : ∀ b o, X.base.get? b = some o → X.s₀.heap.get? b = some o ∧ X.H₀ b = none
  bsz : X.base.objs.size ≤ X.s₀.heap.objs.size
  noex : ∀ b o, X.base.get? b = some o → b ∉ X.ex
  exfs : ∀ b ∈ X.ex, b ∉ X.fs
  funs : X.s₀.heap.FunFrames X.base X.outer
  frf : ∀ b ∈ X.fs, X.H₀ b = none

structure Inv (X : Cx) (pins : List (Addr × Obj)) (σ : List (Option V)) (H : Hp) (s : Shared) : Prop where
  ok : X.Ok
  os : s.os = X.s₀.os
  bare : AllBare s.gens
  base : Un X.fs X.ex X.H₀ H X.s₀.heap s.heap
  loc : ∃ m, s.heap.Ns X.env.locals m ∧ ∀ (i : Nat) (x : Str) (v : V), X.N[i]? = some x → σ[i]? = some (some v) → Vis X.env.scope x → ∃ u, RelV v u ∧ Look X.env s.heap m x u
  cell : ∀ x c, X.env.cells.lookup x = some c → ∃ v, s.heap.IsCell c v
  free : H X.env.locals = none
  freeC : ∀ x c, X.env.cells.lookup x = some c → H c = none
  pin : ∀ p ∈ X.pn ++ pins, s.heap.get? p.1 = some p.2 ∧ H p.1 = none ∧ p.1 ≠ X.env.locals ∧ p.1 ∉ X.fs ∧ ∀ v, p.2.data ≠ .cell v
  hok : HOk X.prog X.w H s.heap
  len : σ.length = X.N.length

section
variable {X : Cx} {pins : List (Addr × Obj)} {σ : List (Option V)} {H H' : Hp} {s : Shared} {h' : Heap}

theorem Cx.Ok.nofr (ok : X.Ok) {b : Addr} {o : Obj} (e : X.base.get? b = some o) : b ∉ X.fs := fun hb => by
  have := (ok.funs.mem hb).1
  rw [e] at this; cases this
theorem Inv.bs (I : Inv X pins σ H s) : ∀ b o, X.base.get? b = some o → s.heap.get? b = some o ∧ H b = none := fun b o e =>
  ⟨I.base.keep b o (I.ok.bs b o e).1 (I.ok.bs b o e).2 (I.ok.nofr e) (I.ok.noex b o e), I.base.free b o (I.ok.bs b o e).1 (I.ok.bs b o e).2 (I.ok.noex b o e)⟩
theorem Inv.bk (I : Inv X pins σ H s) : ∀ b o, X.base.get? b = some o → s.heap.get? b = some o := fun b o e => (I.bs b o e).1
theorem Inv.mod (I : Inv X pins σ H s) : Mod X.K X.mg X.base := I.ok.mod
theorem Inv.kIn (I : Inv X pins σ H s) : X.K.In s.heap := I.ok.mod.kin.keeps I.bk
theorem Inv.lt (I : Inv X pins σ H s) : X.env.locals < s.heap.objs.size := let ⟨_, hn, _⟩ := I.loc; hn.lt
theorem Inv.sz (I : Inv X pins σ H s) : X.s₀.heap.objs.size ≤ s.heap.objs.size := Nat.le_trans I.ok.above (Nat.le_of_lt I.lt)
theorem Inv.nofs (I : Inv X pins σ H s) {a : Addr} (h : s.heap.objs.size ≤ a) : a ∉ X.fs := fun hb => by
  obtain ⟨_, o, ho, _⟩ := I.ok.funs.mem hb
  exact absurd (Nat.lt_of_lt_of_le (Heap.lt_size ho) (Nat.le_trans I.sz h)) (Nat.lt_irrefl _)
theorem Inv.cne (I : Inv X pins σ H s) : ∀ x c, X.env.cells.lookup x = some c → c ≠ X.env.locals := fun x c e z => by
  obtain ⟨v, o, ho, hd⟩ := I.cell x c e
  obtain ⟨m, ⟨o', es, ep, ho', hd', _⟩, _⟩ := I.loc
  rw [z, ho'] at ho; cases ho; rw [hd'] at hd; cases hd
theorem Inv.funs (I : Inv X pins σ H s) : s.heap.FunFrames X.base X.outer := by
  have all : ∀ (l : List Env), (∀ b ∈ frs l, b ∈ X.fs) → X.s₀.heap.FunFrames X.base l → s.heap.FunFrames X.base l := by
    intro l
    induction l with
    | nil => intro _ _; trivial
    | cons env r ih =>
      intro hs hl
      obtain ⟨hk, ⟨L, o, hf, hn, ho, hd⟩, hr⟩ := hl
      have hL : L ∈ X.fs := hs L (by unfold frs; rw [List.filterMap_cons, hf]; exact List.mem_cons_self)
      obtain ⟨sl, e⟩ := I.base.slot L o ho (I.ok.frf L hL) hL fun z => I.ok.exfs L z hL
      exact ⟨hk, ⟨L, _, hf, hn, e, hd⟩, ih (fun b hb => hs b (by unfold frs; rw [List.filterMap_cons, hf]; exact List.mem_cons_of_mem _ hb)) hr⟩
  exact all X.outer (fun _ hb => hb) I.ok.funs

/-- the frames that run, for a call -/
theorem Inv.stack (I : Inv X pins σ H s) : s.heap.FunFrames X.base X.stack := by
  rcases I.ok.stk with e | ⟨e, hf⟩
  · rw [e]; exact I.funs
  · rw [e]
    obtain ⟨m, hn, _⟩ := I.loc
    refine .cons (by rw [I.ok.kind]; decide) hf hn ?_ I.funs
    exact Heap.get?_none_of_le (Nat.le_trans I.ok.bsz I.ok.above)
theorem Inv.stkSub (I : Inv X pins σ H s) : ∀ b ∈ frs X.stack, b ∈ X.env.locals :: X.fs := fun b hb => by
  rcases I.ok.stk with e | ⟨e, hf⟩
  · rw [e] at hb; exact List.mem_cons_of_mem _ hb
  · rw [e] at hb
    unfold frs at hb
    rw [List.filterMap_cons, hf] at hb
    exact hb
theorem Inv.stkFree (I : Inv X pins σ H s) : ∀ b ∈ frs X.stack, H b = none := fun b hb => by
  rcases List.mem_cons.mp (I.stkSub b hb) with e | hb
  · rw [e]; exact I.free
  · obtain ⟨_, o, ho, _⟩ := I.ok.funs.mem hb
    exact I.base.free b o ho (I.ok.frf b hb) fun z => I.ok.exfs b z hb

/-- THE STEP: the untracked objects but the frame and the records at ch are kept (the callers' frames up to slots), the frame's map is kept, the new abstract heap is held -/
theorem Inv.step {g' : Array GenState} {t' : Nat} {d' : Drawn} {ch : List Addr} (I : Inv X pins σ H s)
    (hch : ∀ b ∈ ch, (b ∈ X.ex ∨ X.s₀.heap.objs.size ≤ b) ∧ b ≠ X.env.locals ∧ (∀ x c, X.env.cells.lookup x = some c → c ≠ b) ∧ ∀ p ∈ X.pn ++ pins, p.1 ≠ b)
    (keep : ∀ b o, b ≠ X.env.locals → b ∉ X.fs → b ∉ ch → s.heap.get? b = some o → H b = none → h'.get? b = some o)
    (slot : ∀ b o, b ≠ X.env.locals → b ∈ X.fs → b ∉ ch → s.heap.get? b = some o → H b = none → ∃ sl, h'.get? b = some { o with slots := sl }) (free : ∀ b o, b ∉ ch → s.heap.get? b = some o → H b = none → H' b = none)
    (there : ∀ b o, b ∉ ch → s.heap.get? b = some o → ∃ o', h'.get? b = some o')
    (tups : ∀ b xs, H b = some (.tup xs) → H' b = some (.tup xs)) (frzs : ∀ b o u, H b = some (.frz o u) → H' b = some (.frz o u)) (tbls : ∀ b ps, H b = some (.tbl ps) → ∃ more, H' b = some (.tbl (ps ++ more)))
    (ns : ∀ m, s.heap.Ns X.env.locals m → h'.Ns X.env.locals m) (hok : HOk X.prog X.w H' h') (hg : AllBare g') :
    Inv X pins σ H' { s with heap := h', gens := g', drawn := d', toks := t' } := by
  have neL : ∀ b o, X.s₀.heap.get? b = some o → b ≠ X.env.locals := fun b o e => Nat.ne_of_lt (Nat.lt_of_lt_of_le (Heap.lt_size e) I.ok.above)
  have neC : ∀ b o, X.s₀.heap.get? b = some o → b ∉ X.ex → b ∉ ch := fun b o e hx hb => by
    rcases (hch b hb).1 with z | z
    · exact hx z
    · exact absurd (Nat.lt_of_lt_of_le (Heap.lt_size e) z) (Nat.lt_irrefl _)
  have cellK : ∀ x c, X.env.cells.lookup x = some c → ∀ v, s.heap.IsCell c v → h'.IsCell c v := fun x c e v ⟨o, ho, hd⟩ => by
    have nch : c ∉ ch := fun z => (hch c z).2.2.1 x c e rfl
    by_cases hc : c ∈ X.fs
    · obtain ⟨sl, q⟩ := slot c o (I.cne x c e) hc nch ho (I.freeC x c e)
      exact ⟨_, q, hd⟩
    · exact ⟨o, keep c o (I.cne x c e) hc nch ho (I.freeC x c e), hd⟩
  refine ⟨I.ok, I.os, hg, ⟨fun b o e n hb hx => ?_, fun b o e n hb hx => ?_, fun b o e n hx => ?_, fun b o e hx => ?_, fun b xs e => tups b xs (I.base.tups b xs e), fun b o xs e => frzs b o xs (I.base.frzs b o xs e), fun b ps e => ?_⟩, ?_, fun x c e => ?_, ?_, fun x c e => ?_, fun p hp => ?_, hok, I.len⟩
  · exact keep b o (neL b o e) hb (neC b o e hx) (I.base.keep b o e n hb hx) (I.base.free b o e n hx)
  · obtain ⟨sl, e1⟩ := I.base.slot b o e n hb hx
    obtain ⟨sl', e2⟩ := slot b _ (neL b o e) hb (neC b o e hx) e1 (I.base.free b o e n hx)
    exact ⟨sl', e2⟩
  · obtain ⟨o', e1⟩ := I.base.there b o e hx
    exact free b o' (neC b o e hx) e1 (I.base.free b o e n hx)
  · obtain ⟨o', e1⟩ := I.base.there b o e hx
    exact there b o' (neC b o e hx) e1
  · obtain ⟨m1, e1⟩ := I.base.tbls b ps e
    obtain ⟨m2, e2⟩ := tbls b _ e1
    exact ⟨m1 ++ m2, by rw [e2, Array.append_assoc]⟩
  · obtain ⟨m, hn, hl⟩ := I.loc
    refine ⟨m, ns m hn, fun i x v e1 e2 e3 => ?_⟩
    obtain ⟨u, r, l⟩ := hl i x v e1 e2 e3
    refine ⟨u, r, ?_⟩
    rcases l with l | ⟨k, c, e, z⟩
    · exact .inl l
    · exact .inr ⟨k, c, e, cellK x c e _ z⟩
  · obtain ⟨v, z⟩ := I.cell x c e
    exact ⟨v, cellK x c e v z⟩
  · obtain ⟨m, ⟨o, _, _, ho, _⟩, _⟩ := I.loc
    exact free _ o (fun z => (hch _ z).2.1 rfl) ho I.free
  · obtain ⟨v, o, ho, hd⟩ := I.cell x c e
    exact free c o (fun z => (hch c z).2.2.1 x c e rfl) ho (I.freeC x c e)
  · obtain ⟨e, n, ne, nf, d⟩ := I.pin p hp
    have nch : p.1 ∉ ch := fun z => (hch p.1 z).2.2.2 p hp rfl
    exact ⟨keep p.1 p.2 ne nf nch e n, free p.1 p.2 nch e n, ne, nf, d⟩
/-- .. where the frame's own object is kept too -/
theorem Inv.un {t' : Nat} (I : Inv X pins σ H s) (u : Un X.fs [] H H' s.heap h') (hok : HOk X.prog X.w H' h') : Inv X pins σ H' { s with heap := h', toks := t' } := by
  obtain ⟨m, ⟨o, es, ep, ho, r⟩, _⟩ := id I.loc
  obtain ⟨sl, hL⟩ := u.any ho I.free (by simp)
  exact I.step (g' := s.gens) (d' := s.drawn) (ch := []) (fun _ z => nomatch z) (fun b o _ hb _ e n => u.keep b o e n hb (by simp)) (fun b o _ hb _ e n => u.slot b o e n hb (by simp)) (fun b o _ e n => u.free b o e n (by simp)) (fun b o _ e => u.there b o e (by simp)) u.tups u.frzs u.tbls (fun m' hm => by
    obtain ⟨o', es', ep', ho', r'⟩ := hm
    rw [ho] at ho'; cases ho'
    exact ⟨_, es', ep', hL, r'⟩) hok I.bare
/-- behind a call (or a comprehension's block): the slots of this frame may have changed too, the records at ch may have turned -/
theorem Inv.call {g' : Array GenState} {t' : Nat} {d' : Drawn} {ch : List Addr} (I : Inv X pins σ H s) (u : Un (frs X.stack) ch H H' s.heap h') (hok : HOk X.prog X.w H' h') (hg : AllBare g')
    (hch : ∀ b ∈ ch, (b ∈ X.ex ∨ X.s₀.heap.objs.size ≤ b) ∧ b ≠ X.env.locals ∧ (∀ x c, X.env.cells.lookup x = some c → c ≠ b) ∧ ∀ p ∈ X.pn ++ pins, p.1 ≠ b) :
    Inv X pins σ H' { s with heap := h', gens := g', drawn := d', toks := t' } := by
  obtain ⟨m, ⟨o, es, ep, ho, r⟩, _⟩ := id I.loc
  obtain ⟨sl, hL⟩ := u.any ho I.free fun z => (hch _ z).2.1 rfl
  exact I.step (ch := ch) hch (fun b o hL hb hc e n => u.keep b o e n (fun z => (List.mem_cons.mp (I.stkSub b z)).elim hL hb) hc) (fun b o _ _ hc e n => u.any e n hc) (fun b o hc e n => u.free b o e n hc) (fun b o hc e => u.there b o e hc) u.tups u.frzs u.tbls (fun m' hm => by
    obtain ⟨o', es', ep', ho', r'⟩ := hm
    rw [ho] at ho'; cases ho'
    exact ⟨_, es', ep', hL, r'⟩) hok hg
/-- an untracked record of ours (an iterator) has turned -/
theorem Inv.turned {t' : Nat} {it : Addr} (I : Inv X pins σ H s) (k : ∀ b o, b ≠ it → s.heap.get? b = some o → h'.get? b = some o) (hn : H it = none) (hL : it ≠ X.env.locals)
    (h1 : it ∈ X.ex ∨ X.s₀.heap.objs.size ≤ it) (h2 : ∀ x c, X.env.cells.lookup x = some c → c ≠ it) (h3 : ∀ p ∈ X.pn ++ pins, p.1 ≠ it) : Inv X pins σ H { s with heap := h', toks := t' } := by
  have nit : ∀ b u, H b = some u → b ≠ it := fun b u e z => by rw [z, hn] at e; cases e
  refine I.step (g' := s.gens) (d' := s.drawn) (ch := [it]) (fun b hb => ?_) (fun b o _ _ hc e _ => k b o (fun z => hc (by simp [z])) e) (fun b o _ _ hc e _ => ⟨o.slots, k b o (fun z => hc (by simp [z])) e⟩) (fun _ _ _ _ n => n)
    (fun b o hc e => ⟨o, k b o (fun z => hc (by simp [z])) e⟩) (fun _ _ e => e) (fun _ _ _ e => e) (fun b ps e => ⟨#[], by rw [e]; simp⟩) (fun m hm => ?_) (fun b u e => ?_) I.bare
  · have e : b = it := by simpa using hb
    subst e
    exact ⟨h1, hL, h2, h3⟩
  · obtain ⟨o, es, ep, ho, r⟩ := hm
    exact ⟨o, es, ep, k _ o (Ne.symm hL) ho, r⟩
  · refine (I.hok b u e).stay (fun c v hc q => k c v ?_ q) (fun _ q => q) fun _ _ q => q
    rcases hc with z | z
    · rw [z]; exact nit b u e
    · exact nit c _ z
theorem Inv.tok (I : Inv X pins σ H s) (t : Nat) : Inv X pins σ H { s with toks := t } := I.un (h' := s.heap) (t' := t) Un.refl I.hok
/-- all objects kept -/
theorem Inv.kept {t' : Nat} (I : Inv X pins σ H s) (k : ∀ b u, s.heap.get? b = some u → h'.get? b = some u) : Inv X pins σ H { s with heap := h', toks := t' } := I.un (Un.kept k) (I.hok.kept k)
/-- a new object laid and tracked -/
theorem Inv.laid {a : Addr} {o : HO} {t' : Nat} (I : Inv X pins σ H s) (k : ∀ b u, s.heap.get? b = some u → h'.get? b = some u) (hp : s.heap.objs.size ≤ a) (new : ObjOk X.prog X.w (upd H a o) h' a o) :
    Inv X pins σ (upd H a o) { s with heap := h', toks := t' } := I.un (Un.laid k hp (I.hok.fresh hp)) (I.hok.laid k hp new)
/-- an object written -/
theorem Inv.write {x e : Addr} {o : HO} {t' : Nat} (I : Inv X pins σ H s) (mu : Mut (H x)) (he : e = x ∨ H e = some (.own x)) (k : ∀ b u, b ≠ e → s.heap.get? b = some u → h'.get? b = some u) (heo : ∃ u, h'.get? e = some u)
    (new : ObjOk X.prog X.w (upd H x o) h' x o) : Inv X pins σ (upd H x o) { s with heap := h', toks := t' } := I.un (Un.write mu he k heo) (I.hok.write mu he k heo new)
theorem Inv.pins_of {pins' : List (Addr × Obj)} (I : Inv X pins σ H s) (h : ∀ p ∈ pins', s.heap.get? p.1 = some p.2 ∧ H p.1 = none ∧ p.1 ≠ X.env.locals ∧ p.1 ∉ X.fs ∧ ∀ v, p.2.data ≠ .cell v) : Inv X pins' σ H s :=
  ⟨I.ok, I.os, I.bare, I.base, I.loc, I.cell, I.free, I.freeC, fun p hp => (List.mem_append.mp hp).elim (fun z => I.pin p (List.mem_append_left _ z)) (h p), I.hok, I.len⟩

theorem nodup_ix {N : List Str} (hN : N.Nodup) {i j : Nat} {x : Str} (a : N[i]? = some x) (b : N[j]? = some x) : i = j := by
  obtain ⟨h1, e1⟩ := List.getElem?_eq_some_iff.mp a
  obtain ⟨h2, e2⟩ := List.getElem?_eq_some_iff.mp b
  exact (List.getElem_inj hN).mp (e1.trans e2.symm)

/-- a name is stored; what changed -/
theorem store_ok2 {M : Model} {A : Around} {E : Value → Shared → Prop} {i : Nat} {x : Str} {v : V} {u : Value} {Q : Unit → Shared → Prop} (I : Inv X pins σ H s) (hN : X.N.Nodup) (hi : X.N[i]? = some x) (hx : Loc X.env.scope x) (r : RelV v u)
    (h : ∀ s', Inv X pins (σ.set i (some v)) H s' → (∃ a, Heap.SameBut a s.heap s'.heap ∧ (a = X.env.locals ∨ X.env.cells.lookup x = some a)) → Q () s') (hf : X.fn x = true ∨ X.env.scope.names.lookup x = some .local := by first | exact .inl rfl | exact .inr rfl | assumption) : wpAny M A (storeName X.env x u) Q E s := by
  obtain ⟨m, hn, hl⟩ := id I.loc
  have hcls : (X.env.scope.kind == .class || (X.env.scope.kind == .module && X.env.locals != X.env.globals)) = false := by rw [I.ok.kind]; rfl
  have hiσ : i < σ.length := by rw [I.len]; exact (List.getElem?_eq_some_iff.mp hi).1
  have cne := I.cne
  have tracked : ∀ {a : Addr} {h' : Heap}, (∃ o, s.heap.get? a = some o ∧ H a = none) → Heap.SameBut a s.heap h' → HOk X.prog X.w H h' := fun {a h'} ha hs b ob e => by
    obtain ⟨_, _, hfree⟩ := ha
    refine (I.hok b ob e).stay (fun c w' hc q => (hs.2 c ?_).trans q) (fun _ q => q) fun _ _ q => q
    rintro rfl
    rcases hc with rfl | hc
    · rw [hfree] at e; cases e
    · rw [hfree] at hc; cases hc
  rcases hx with hk | hk
  · refine wpAny_storeName_local hk hn (fun h' hn' hs => ?_) hcls
    obtain ⟨oL, _, _, hoL, _⟩ := id hn
    refine h _ ⟨I.ok, I.os, I.bare, ⟨fun b o e n hb hx => ?_, fun b o e n hb hx => ?_, I.base.free, fun b o e hx => ?_, I.base.tups, I.base.frzs, I.base.tbls⟩, ⟨_, hn', fun j y v' e1 e2 e3 => ?_⟩, fun y c e => ?_, I.free, I.freeC, fun p hp => ?_, tracked ⟨oL, hoL, I.free⟩ hs, by simpa using I.len⟩ ⟨_, hs, .inl rfl⟩
    · exact (hs.2 b (Nat.ne_of_lt (Nat.lt_of_lt_of_le (Heap.lt_size e) I.ok.above))).trans (I.base.keep b o e n hb hx)
    · obtain ⟨sl, e1⟩ := I.base.slot b o e n hb hx
      exact ⟨sl, (hs.2 b (Nat.ne_of_lt (Nat.lt_of_lt_of_le (Heap.lt_size e) I.ok.above))).trans e1⟩
    · obtain ⟨o', e1⟩ := I.base.there b o e hx
      exact ⟨o', (hs.2 b (Nat.ne_of_lt (Nat.lt_of_lt_of_le (Heap.lt_size e) I.ok.above))).trans e1⟩
    · by_cases hj : j = i
      · subst hj
        rw [hi] at e1; cases e1
        rw [List.getElem?_set_self hiσ] at e2
        cases e2
        exact ⟨u, r, .inl ⟨hk, by simp⟩⟩
      · rw [List.getElem?_set_ne (Ne.symm hj)] at e2
        obtain ⟨u', r', q⟩ := hl j y v' e1 e2 e3
        refine ⟨u', r', ?_⟩
        rcases q with ⟨k, e⟩ | ⟨k, c, e, z⟩
        · refine .inl ⟨k, ?_⟩
          have : y ≠ x := fun e => hj (nodup_ix hN e1 (e ▸ hi))
          simp [this, e]
        · exact .inr ⟨k, c, e, z.sameBut hs (cne y c e)⟩
    · obtain ⟨w', z⟩ := I.cell y c e
      exact ⟨w', z.sameBut hs (cne y c e)⟩
    · obtain ⟨e, n, ne, nf, d⟩ := I.pin p hp
      exact ⟨(hs.2 p.1 ne).trans e, n, ne, nf, d⟩
  · have hfn : X.fn x = true := by
      rcases hf with z | z
      · exact z
      · rw [z] at hk; cases hk
    obtain ⟨c, hc⟩ := I.ok.has x (.inl hk)
    obtain ⟨w', z⟩ := I.cell x c hc
    refine wpAny_storeName_cell I.ok.kind hk hc z (fun h' hc' hs => ?_)
    obtain ⟨oc, hoc, hocd⟩ := id z
    refine h { s with heap := h' } ⟨I.ok, I.os, I.bare, ⟨fun b o e n hb hx => ?_, fun b o e n hb hx => ?_, I.base.free, fun b o e hx => ?_, I.base.tups, I.base.frzs, I.base.tbls⟩, ⟨m, hn.sameBut hs (Ne.symm (cne x c hc)), fun j y v' e1 e2 e3 => ?_⟩, fun y c' e => ?_, I.free, I.freeC, fun p hp => ?_, tracked ⟨oc, hoc, I.freeC x c hc⟩ hs, by simpa using I.len⟩ ⟨c, hs, .inr hc⟩
    · exact (hs.2 b (Nat.ne_of_lt (Nat.lt_of_lt_of_le (Heap.lt_size e) (I.ok.cab x c hfn hc)))).trans (I.base.keep b o e n hb hx)
    · obtain ⟨sl, e1⟩ := I.base.slot b o e n hb hx
      exact ⟨sl, (hs.2 b (Nat.ne_of_lt (Nat.lt_of_lt_of_le (Heap.lt_size e) (I.ok.cab x c hfn hc)))).trans e1⟩
    · obtain ⟨o', e1⟩ := I.base.there b o e hx
      exact ⟨o', (hs.2 b (Nat.ne_of_lt (Nat.lt_of_lt_of_le (Heap.lt_size e) (I.ok.cab x c hfn hc)))).trans e1⟩
    · by_cases hj : j = i
      · subst hj
        rw [hi] at e1; cases e1
        rw [List.getElem?_set_self hiσ] at e2
        cases e2
        exact ⟨u, r, .inr ⟨.inl hk, c, hc, hc'⟩⟩
      · rw [List.getElem?_set_ne (Ne.symm hj)] at e2
        obtain ⟨u', r', q⟩ := hl j y v' e1 e2 e3
        refine ⟨u', r', ?_⟩
        rcases q with q | ⟨k, c', e, z'⟩
        · exact .inl q
        · refine .inr ⟨k, c', e, z'.sameBut hs ?_⟩
          rintro rfl
          exact hj (nodup_ix hN e1 (I.ok.inj _ _ _ e hc ▸ hi))
    · by_cases hcc : c' = c
      · subst hcc; exact ⟨_, hc'⟩
      · obtain ⟨w2, z2⟩ := I.cell y c' e
        exact ⟨w2, z2.sameBut hs hcc⟩
    · obtain ⟨e, n, ne, nf, d⟩ := I.pin p hp
      refine ⟨(hs.2 p.1 ?_).trans e, n, ne, nf, d⟩
      intro q
      rw [q, hoc] at e
      have q' : oc = p.2 := Option.some.inj e
      exact d w' (by rw [← q']; exact hocd)
theorem store_ok {M : Model} {A : Around} {E : Value → Shared → Prop} {i : Nat} {x : Str} {v : V} {u : Value} {Q : Unit → Shared → Prop} (I : Inv X pins σ H s) (hN : X.N.Nodup) (hi : X.N[i]? = some x) (hx : Loc X.env.scope x) (r : RelV v u)
    (h : ∀ s', Inv X pins (σ.set i (some v)) H s' → Q () s') (hf : X.fn x = true ∨ X.env.scope.names.lookup x = some .local := by first | exact .inl rfl | exact .inr rfl | assumption) : wpAny M A (storeName X.env x u) Q E s :=
  store_ok2 I hN hi hx r (fun s' I' _ => h s' I') hf
/-- behind a call or a block, the state as it is -/
theorem Inv.call' {s' : Shared} {ch : List Addr} (I : Inv X pins σ H s) (ho : s'.os = s.os) (u : Un (frs X.stack) ch H H' s.heap s'.heap) (hok : HOk X.prog X.w H' s'.heap) (hg : AllBare s'.gens)
    (hch : ∀ b ∈ ch, (b ∈ X.ex ∨ X.s₀.heap.objs.size ≤ b) ∧ b ≠ X.env.locals ∧ (∀ x c, X.env.cells.lookup x = some c → c ≠ b) ∧ ∀ p ∈ X.pn ++ pins, p.1 ≠ b) : Inv X pins σ H' s' := by
  obtain ⟨h', g', d', t', o'⟩ := s'
  have e : o' = s.os := ho
  subst e
  exact I.call (g' := g') (t' := t') (d' := d') u hok hg hch
end

/-! ### the judgements -/
/-- an exception: its class, its own dict's address (where it has one), the abstract heap behind it -/
noncomputable abbrev XK := Value → Option Addr → Hp → Prop
noncomputable abbrev St := List (Option V)
noncomputable abbrev VK := V → Hp → Prop
/-- an expression's reading; a test's; an argument list's -/
noncomputable abbrev TE := St → Hp → VK → Prop
noncomputable abbrev TT := St → Hp → (Bool → Hp → Prop) → Prop
noncomputable abbrev TA := St → Hp → (List V → Hp → Prop) → Prop
/-- what is wanted behind a statement -/
structure Ends where
  nx : St → Hp → Prop
  rt : VK
  bk : St → Hp → Prop := fun _ _ => False
  ct : St → Hp → Prop := fun _ _ => False
noncomputable abbrev TS := Ends → St → Hp → Prop

noncomputable def EP (X : Cx) (pins : List (Addr × Obj)) (σ : St) (Q : VK) (u : Value) (s' : Shared) : Prop := ∃ v H', Inv X pins σ H' s' ∧ RelV v u ∧ Q v H'
noncomputable def TP (X : Cx) (pins : List (Addr × Obj)) (σ : St) (Q : Bool → Hp → Prop) (b : Bool) (s' : Shared) : Prop := ∃ H', Inv X pins σ H' s' ∧ Q b H'
noncomputable def AP (X : Cx) (pins : List (Addr × Obj)) (σ : St) (Q : List V → Hp → Prop) (us : List Value) (s' : Shared) : Prop := ∃ vs H', Inv X pins σ H' s' ∧ Vals vs us ∧ Q vs H'
noncomputable def SP (X : Cx) (pins : List (Addr × Obj)) (D : Ends) (f : Flow) (s' : Shared) : Prop :=
  match f with
  | .next => ∃ σ' H', Inv X pins σ' H' s' ∧ D.nx σ' H'
  | .brk => ∃ σ' H', Inv X pins σ' H' s' ∧ D.bk σ' H'
  | .cont => ∃ σ' H', Inv X pins σ' H' s' ∧ D.ct σ' H'
  | .ret u => ∃ v σ' H', Inv X pins σ' H' s' ∧ RelV v u ∧ D.rt v H'

noncomputable def PE (X : Cx) (e : Expr) (t : TE) : Prop :=
  ∀ (pins : List (Addr × Obj)) (s : Shared) (σ : St) (H : Hp) (Q : VK), Inv X pins σ H s → t σ H Q → wpAny (model X.prog X.w) X.A (eval e X.env) (EP X pins σ Q) X.xe s
noncomputable def PT (X : Cx) (e : Expr) (t : TT) : Prop :=
  ∀ (pins : List (Addr × Obj)) (s : Shared) (σ : St) (H : Hp) (Q : Bool → Hp → Prop), Inv X pins σ H s → t σ H Q → wpAny (model X.prog X.w) X.A (isTrue e X.env (eval e X.env)) (TP X pins σ Q) X.xe s
/-- a test whatever its 'whole' is (and, or) -/
noncomputable def PW (X : Cx) (e : Expr) (t : TT) : Prop :=
  ∀ (whole : Sem Value) (pins : List (Addr × Obj)) (s : Shared) (σ : St) (H : Hp) (Q : Bool → Hp → Prop), Inv X pins σ H s → t σ H Q → wpAny (model X.prog X.w) X.A (isTrue e X.env whole) (TP X pins σ Q) X.xe s
theorem PW.pt {X : Cx} {e : Expr} {t : TT} (h : PW X e t) : PT X e t := h _
/-- an argument list (no star), from the left -/
noncomputable def PA (X : Cx) (es : List Expr) (t : TA) : Prop :=
  ∀ (pos : Pos) (pins : List (Addr × Obj)) (s : Shared) (σ : St) (H : Hp) (Q : List V → Hp → Prop), Inv X pins σ H s → t σ H Q → wpAny (model X.prog X.w) X.A (spliced (backTo pos (starEach es X.env))) (AP X pins σ Q) X.xe s
noncomputable def PS (X : Cx) (st : Stmt) (t : TS) : Prop :=
  ∀ (pins : List (Addr × Obj)) (s : Shared) (σ : St) (H : Hp) (D : Ends), Inv X pins σ H s → t D σ H → wpAny (model X.prog X.w) X.A (exec st X.env) (SP X pins D) X.xe s
noncomputable def PSs (X : Cx) (st : List Stmt) (t : TS) : Prop :=
  ∀ (pins : List (Addr × Obj)) (s : Shared) (σ : St) (H : Hp) (D : Ends), Inv X pins σ H s → t D σ H → wpAny (model X.prog X.w) X.A (execs st X.env) (SP X pins D) X.xe s
/-- weaken the end -/
theorem thn {α : Type} {t : Sem α} {Q Q' : α → Shared → Prop} {M : Model} {A : Around} {E : Value → Shared → Prop} {s : Shared} (h : wpAny M A t Q E s) (hQ : ∀ a s, Q a s → Q' a s) : wpAny M A t Q' E s := wpAny_mono h hQ fun _ _ x => x
end L2

namespace L2
open PySem PySem.Spec PyProof.Rows
section
variable {X : Cx}


/-! ### names and constants -/
noncomputable def tVar (i : Nat) : TE := fun σ H Q => ∃ v, σ[i]? = some (some v) ∧ Q v H
noncomputable def tC (v : V) : TE := fun _ H Q => Q v H
theorem pe_var {i : Nat} {x : Str} {pos : Pos} (hN : X.N[i]? = some x) (hv : Vis X.env.scope x) (hd : (x == ("__debug__" : Str)) = false := by decide) (hcd : (x == ("__classdict__" : Str)) = false := by decide) : PE X (.Name x pos) (tVar i) := by
  intro pins s σ H Q I h
  obtain ⟨v, e, h⟩ := h
  obtain ⟨m, hn, hl⟩ := I.loc
  obtain ⟨u, r, l⟩ := hl i x v hN e hv
  have fin : EP X pins σ Q u s := ⟨v, H, I, r, h⟩
  rcases l with ⟨hk, hm⟩ | ⟨hk, c, hc, hcell⟩
  · exact wpAny_Name (wpAny_loadName_local I.ok.kind hk hn hm fin) hd
  · rcases hk with hk | hk
    · exact wpAny_Name (wpAny_loadName_cell I.ok.kind hk hc hcell fin) hd
    · exact wpAny_Name (wpAny_loadName_free I.ok.kind hk hc hcell fin hcd) hd
theorem pe_int {i j pos} : PE X (.Constant (.int i) j pos) (tC (.int i)) := fun _ _ _ H _ I h => wpAny_Constant_int ⟨.int i, H, I.tok _, ⟨_, rfl⟩, h⟩
theorem pe_bl {b j pos} : PE X (.Constant (.bool b) j pos) (tC (.bl b)) := fun _ _ _ H _ I h => Constant_bool ⟨.bl b, H, I, rfl, h⟩
theorem pe_str {x j pos} : PE X (.Constant (.str x) j pos) (tC (.str x)) := fun _ _ _ H _ I h => Calls.Constant_str ⟨.str x, H, I.tok _, ⟨_, rfl⟩, h⟩

/-- a global name of the def -/
noncomputable def Gl (X : Cx) (x : Str) : Prop := X.env.kindOf x = some .globalImplicit
theorem ld_glob {E : Value → Shared → Prop} {pins : List (Addr × Obj)} {s : Shared} {σ : St} {H : Hp} {x : Str} {u : Value} {pos : Pos} {Q : Value → Shared → Prop} (I : Inv X pins σ H s) (hg : Gl X x) (hm : X.mg x = some u) (h : Q u s)
    (hd : (x == ("__debug__" : Str)) = false := by decide) : wpAny (model X.prog X.w) X.A (eval (.Name x pos) X.env) Q E s :=
  Calls.Name_function_global I.ok.kind hg (Calls.loadGlobal_global (by rw [I.ok.glob]; exact I.mod.glob.keeps I.bk) hm h) hd
theorem ld_blt {E : Value → Shared → Prop} {pins : List (Addr × Obj)} {s : Shared} {σ : St} {H : Hp} {x : Str} {u : Value} {pos : Pos} {Q : Value → Shared → Prop} (I : Inv X pins σ H s) (hg : Gl X x) (hm : X.mg x = none) (hv : bootBuiltins x = some u) (h : Q u s)
    (hn : x ≠ "__name__" := by decide) (hd : (x == ("__debug__" : Str)) = false := by decide) : wpAny (model X.prog X.w) X.A (eval (.Name x pos) X.env) Q E s := by
  obtain ⟨mb, h1, h2⟩ := I.mod.blt
  exact Calls.Name_function_global I.ok.kind hg (Calls.loadGlobal_builtin (by rw [I.ok.glob]; exact I.mod.glob.keeps I.bk) hm (by rw [I.ok.blt]; exact h1.keeps I.bk) ((h2 x hn).trans hv) h) hd
/-- a module's constant, a class, a function, as a value -/
theorem pe_glob {x : Str} {v : V} {u : Value} {pos : Pos} (hg : Gl X x) (hm : X.mg x = some u) (r : RelV v u) (hd : (x == ("__debug__" : Str)) = false := by decide) : PE X (.Name x pos) (tC v) :=
  fun _ _ _ H _ I h => ld_glob I hg hm ⟨v, H, I, r, h⟩ hd
theorem pe_bltn {x : Str} {v : V} {u : Value} {pos : Pos} (hg : Gl X x) (hm : X.mg x = none) (hv : bootBuiltins x = some u) (r : RelV v u) (hn : x ≠ "__name__" := by decide) (hd : (x == ("__debug__" : Str)) = false := by decide) : PE X (.Name x pos) (tC v) :=
  fun _ _ _ H _ I h => ld_blt I hg hm hv ⟨v, H, I, r, h⟩ hn hd

/-! ### arithmetic -/
variable {a b : Expr} {ta tb : TE} {pos : Pos}

/-! ### comparisons -/
/-- a comparison as a value, as a test -/
noncomputable def tB (t : TE) : TT := fun σ H Q => t σ H fun x H1 => ∃ c, x = .bl c ∧ Q c H1
/-- an expression whose value is a bool, as a test -/
theorem pt_val {e : Expr} {t : TE} (h : PE X e t) (he : ∀ whole, isTrue e X.env whole = (do let v ← whole; standAt e.pos; holding [v] (truthy v)) := by intro _; rfl) : PT X e (tB t) := by
  intro pins s σ H Q I hw
  refine isTrue_plain (thn (h pins s σ H _ I hw) fun v s1 ⟨x, H1, I1, r1, q1⟩ => ?_) (he _)
  obtain ⟨d, rfl, q⟩ := q1
  cases r1
  exact wpAny_truthy_bool ⟨H1, I1, q⟩

/-! ### and, or, not -/
variable {tA tB' : TT} {rest : List Expr}
noncomputable def tAnd (t u : TT) : TT := fun σ H Q => t σ H fun c H1 => if c = true then u σ H1 Q else Q false H1
noncomputable def tOr (t u : TT) : TT := fun σ H Q => t σ H fun c H1 => if c = true then Q true H1 else u σ H1 Q
noncomputable def tNot (t : TT) : TT := fun σ H Q => t σ H fun c H1 => Q (!c) H1
theorem pw_and1 (ha : PT X a tA) : PW X (.BoolOp .And [a] pos) tA := by
  intro wh pins s σ H Q I h
  refine isTrue_and (thn (ha pins s σ H Q I h) fun c s1 e => ?_)
  cases c with
  | true => exact isTrue_and_nil e
  | false => exact e
theorem pw_or1 (ha : PT X a tA) : PW X (.BoolOp .Or [a] pos) tA := by
  intro wh pins s σ H Q I h
  refine isTrue_or (thn (ha pins s σ H Q I h) fun c s1 e => ?_)
  cases c with
  | false => exact isTrue_or_nil e
  | true => exact e
theorem pw_and (ha : PT X a tA) (hb : PW X (.BoolOp .And (b :: rest) pos) tB') : PW X (.BoolOp .And (a :: b :: rest) pos) (tAnd tA tB') := by
  intro wh pins s σ H Q I h
  refine isTrue_and (thn (ha pins s σ H _ I h) fun c s1 ⟨H1, I1, q1⟩ => ?_)
  cases c with
  | true => exact hb wh pins s1 σ H1 Q I1 q1
  | false => exact ⟨H1, I1, q1⟩
theorem pw_or (ha : PT X a tA) (hb : PW X (.BoolOp .Or (b :: rest) pos) tB') : PW X (.BoolOp .Or (a :: b :: rest) pos) (tOr tA tB') := by
  intro wh pins s σ H Q I h
  refine isTrue_or (thn (ha pins s σ H _ I h) fun c s1 ⟨H1, I1, q1⟩ => ?_)
  cases c with
  | true => exact ⟨H1, I1, q1⟩
  | false => exact hb wh pins s1 σ H1 Q I1 q1
theorem pt_not (ha : PT X a tA) : PT X (.UnaryOp .Not a pos) (tNot tA) := by
  intro pins s σ H Q I h
  exact isTrue_not (ha pins s σ H (fun c H1 => Q (!c) H1) I h)
/-- .. as values (bools) -/
noncomputable def tAndV (ta tb : TE) : TE := fun σ H Q => ta σ H fun x H1 => ∃ c, x = .bl c ∧ if c = true then tb σ H1 Q else Q (.bl false) H1
noncomputable def tNotV (ta : TE) : TE := fun σ H Q => ta σ H fun x H1 => ∃ c, x = .bl c ∧ Q (.bl (!c)) H1
theorem pe_one {op} {t : TE} (h : PE X a t) : PE X (.BoolOp op [a] pos) t := fun pins s σ H Q I hw => BoolOp_one (h pins s σ H Q I hw)
theorem pe_and (ha : PE X a ta) (hb : PE X (.BoolOp .And (b :: rest) pos) tb) : PE X (.BoolOp .And (a :: b :: rest) pos) (tAndV ta tb) := by
  intro pins s σ H Q I h
  refine BoolOp_and (thn (ha pins s σ H _ I h) fun v s1 ⟨x, H1, I1, r1, q1⟩ => ?_)
  obtain ⟨c, rfl, q1⟩ := q1
  cases r1
  refine wpAny_truthy_bool ?_
  cases c with
  | true => exact hb pins s1 σ H1 Q I1 q1
  | false => exact ⟨.bl false, H1, I1, rfl, q1⟩
theorem pe_not (ha : PE X a ta) : PE X (.UnaryOp .Not a pos) (tNotV ta) := by
  intro pins s σ H Q I h
  refine UnaryOp_ (thn (ha pins s σ H _ I h) fun v s1 ⟨x, H1, I1, r1, q1⟩ => ?_)
  obtain ⟨c, rfl, q1⟩ := q1
  cases r1
  exact not_of (wpAny_truthy_bool ⟨.bl (!c), H1, I1, rfl, q1⟩)
end
end L2

namespace L2
open PySem PySem.Spec PyProof.Rows

/-! ### a list, a tuple that is read: tracked, frozen, or an object of the module -/
noncomputable def SqL (K : PySem.W.Frag) (H : Hp) (a : Addr) (xs : List V) : Prop :=
  Rd H a (.lst xs) ∨
    ∃ (o : Obj) (its : Array Value) (n : Nat), K.lookup a = some o ∧ o.cls = .type "list" ∧ o.dict = none ∧ o.data = .seq its n ∧ its.size ≤ sizeLine ∧ Vals xs its.toList
noncomputable def SqT (K : PySem.W.Frag) (H : Hp) (a : Addr) (xs : List V) : Prop :=
  Rd H a (.tup xs) ∨
    ∃ (o : Obj) (its : Array Value) (n : Nat), K.lookup a = some o ∧ o.cls = .type "tuple" ∧ o.data = .seq its n ∧ its.size ≤ sizeLine ∧ Vals xs its.toList
noncomputable def absV : Value → Option V
  | .none => some .non
  | .bool b => some (.bl b)
  | .int i _ => some (.int i)
  | .str x _ => some (.str x)
  | .bytes b _ => some (.byt b)
  | .float b _ => some (.flt b)
  | .ref a => some (.ref a)
  | .type n => some (.ty n)
  | _ => none
theorem RelV.abs {x : V} {u : Value} (r : RelV x u) : absV u = some x := by
  cases x with
  | non => cases r; rfl
  | bl _ => cases r; rfl
  | int _ => obtain ⟨t, rfl⟩ := r; rfl
  | str _ => obtain ⟨t, rfl⟩ := r; rfl
  | byt _ => obtain ⟨t, rfl⟩ := r; rfl
  | flt _ => obtain ⟨t, rfl⟩ := r; rfl
  | ref _ => cases r; rfl
  | ty _ => cases r; rfl
theorem RelV.inj {x y : V} {u : Value} (r : RelV x u) (q : RelV y u) : x = y := Option.some.inj (r.abs.symm.trans q.abs)
theorem Vals.inj : ∀ {xs ys : List V} {us : List Value}, Vals xs us → Vals ys us → xs = ys
  | _, _, _, .nil, .nil => rfl
  | _, _, _, .cons r t, .cons r' t' => by rw [r.inj r', Vals.inj t t']
section
variable {X : Cx} {pins : List (Addr × Obj)} {σ : St} {H : Hp} {s : Shared} {a : Addr} {xs ys : List V}
theorem SqL.of {K : PySem.W.Frag} (h : H a = some (.lst xs)) : SqL K H a xs := .inl (.inl h)
theorem SqT.of {K : PySem.W.Frag} (h : H a = some (.tup xs)) : SqT K H a xs := .inl (.inl h)
theorem Inv.list (I : Inv X pins σ H s) (h : SqL X.K H a xs) : ∃ its : List Value, Vals xs its ∧ PlainL s.heap a its.toArray ∧ xs.length ≤ sizeLine := by
  rcases h with h | ⟨o, its, n, hk, hc, hd, hs, hz, r⟩
  · obtain ⟨z, its, n, r, e⟩ := h.ok I.hok
    exact ⟨its, r, ⟨_, n, e, rfl, rfl, rfl⟩, z⟩
  · refine ⟨its.toList, r, ⟨o, n, I.kIn a o hk, hc, hd, by simpa using hs⟩, ?_⟩
    have e := r.length
    simp only [Array.length_toList] at e
    omega
theorem Inv.tuple (I : Inv X pins σ H s) (h : SqT X.K H a xs) : ∃ its : List Value, Vals xs its ∧ IsTup s.heap a its.toArray ∧ xs.length ≤ sizeLine := by
  rcases h with h | ⟨o, its, n, hk, hc, hs, hz, r⟩
  · obtain ⟨z, its, r, p⟩ := h.ok I.hok
    exact ⟨its, r, p, z⟩
  · refine ⟨its.toList, r, ⟨o, I.kIn a o hk, hc, n, by simpa using hs⟩, ?_⟩
    have e := r.length
    simp only [Array.length_toList] at e
    omega
theorem Inv.list_inj (I : Inv X pins σ H s) (h : SqL X.K H a xs) (h' : SqL X.K H a ys) : xs = ys := by
  obtain ⟨its, r, ⟨o, n, e, _, _, d⟩, _⟩ := I.list h
  obtain ⟨its', r', ⟨o', n', e', _, _, d'⟩, _⟩ := I.list h'
  rw [e] at e'; cases e'
  rw [d] at d'
  injection d' with d1 _
  have : its = its' := by simpa using congrArg Array.toList d1
  subst this
  exact r.inj r'
theorem Inv.tuple_inj (I : Inv X pins σ H s) (h : SqT X.K H a xs) (h' : SqT X.K H a ys) : xs = ys := by
  obtain ⟨its, r, ⟨o, e, _, n, d⟩, _⟩ := I.tuple h
  obtain ⟨its', r', ⟨o', e', _, n', d'⟩, _⟩ := I.tuple h'
  rw [e] at e'; cases e'
  rw [d] at d'
  injection d' with d1 _
  have : its = its' := by simpa using congrArg Array.toList d1
  subst this
  exact r.inj r'
end

/-! ### another wish about exceptions -/
noncomputable abbrev Cx.wish (X : Cx) (E : Value → Shared → Prop) : Cx := { X with xe := E }
/-- no exception leaves -/
noncomputable abbrev Cx.nox (X : Cx) : Cx := X.wish fun _ _ => False
theorem Cx.Ok.wish {X : Cx} (ok : X.Ok) (E : Value → Shared → Prop) : (X.wish E).Ok :=
  ⟨ok.mod, ok.kind, ok.glob, ok.blt, ok.above, ok.inj, ok.has, ok.cab, ok.hd, ok.frames, ok.stk, ok.exf, ok.bs, ok.bsz, ok.noex, ok.exfs, ok.funs, ok.frf⟩
theorem Cx.Ok.unwish {X : Cx} {E : Value → Shared → Prop} (ok : (X.wish E).Ok) : X.Ok :=
  ⟨ok.mod, ok.kind, ok.glob, ok.blt, ok.above, ok.inj, ok.has, ok.cab, ok.hd, ok.frames, ok.stk, ok.exf, ok.bs, ok.bsz, ok.noex, ok.exfs, ok.funs, ok.frf⟩
section
variable {X : Cx} {pins : List (Addr × Obj)} {σ : St} {H : Hp} {s : Shared} {E : Value → Shared → Prop}
theorem Inv.wish (I : Inv X pins σ H s) (E : Value → Shared → Prop) : Inv (X.wish E) pins σ H s := ⟨I.ok.wish E, I.os, I.bare, I.base, I.loc, I.cell, I.free, I.freeC, I.pin, I.hok, I.len⟩
theorem Inv.unwish (I : Inv (X.wish E) pins σ H s) : Inv X pins σ H s := ⟨I.ok.unwish, I.os, I.bare, I.base, I.loc, I.cell, I.free, I.freeC, I.pin, I.hok, I.len⟩
theorem SP.unwish {D : Ends} {f : Flow} {s' : Shared} (h : SP (X.wish E) pins D f s') : SP X pins D f s' := by
  cases f with
  | next => obtain ⟨σ', H', I, q⟩ := h; exact ⟨σ', H', I.unwish, q⟩
  | brk => obtain ⟨σ', H', I, q⟩ := h; exact ⟨σ', H', I.unwish, q⟩
  | cont => obtain ⟨σ', H', I, q⟩ := h; exact ⟨σ', H', I.unwish, q⟩
  | ret u => obtain ⟨v, σ', H', I, r, q⟩ := h; exact ⟨v, σ', H', I.unwish, r, q⟩
theorem PSs.nox {st : List Stmt} {t : TS} (h : PSs X.nox st t) : PSs X st t := fun pins s σ H D I hw =>
  wpAny_mono (h pins s σ H D (I.wish _) hw) (fun _ _ q => q.unwish) fun _ _ z => False.elim z
end

/-! ### blocks and small statements -/
section
variable {X : Cx} {st : Stmt} {rest : List Stmt} {t u : TS} {e : Expr} {te : TE} {pos : Pos}
noncomputable def tNext : TS := fun D σ H => D.nx σ H
noncomputable def tSeq (t u : TS) : TS := fun D σ H => t { D with nx := u D } σ H
theorem pss_nil : PSs X [] tNext := fun _ _ σ H _ I h => wpAny_execs_nil ⟨σ, H, I, h⟩
theorem pss_cons (h1 : PS X st t) (h2 : PSs X rest u) : PSs X (st :: rest) (tSeq t u) := by
  intro pins s σ H D I h
  refine wpAny_execs_cons (thn (h1 pins s σ H { D with nx := u D } I h) fun f s1 q => ?_)
  cases f with
  | next =>
    obtain ⟨σ', H', I', q⟩ := q
    exact h2 pins s1 σ' H' D I' q
  | ret v => exact q
  | brk => exact q
  | cont => exact q
theorem pss_one (h1 : PS X st t) : PSs X [st] t := by
  intro pins s σ H D I h
  refine wpAny_execs_cons (thn (h1 pins s σ H D I h) fun f s1 q => ?_)
  cases f with
  | next => exact wpAny_execs_nil q
  | ret v => exact q
  | brk => exact q
  | cont => exact q
/-- in a def's body nothing is shown -/
theorem Inv.quiet {pins : List (Addr × Obj)} {σ : St} {H : Hp} {s : Shared} (I : Inv X pins σ H s) : interactive X.env = false := by simp [interactive, I.ok.kind]
/-- an expression whose value is dropped -/
noncomputable def tDrop (te : TE) : TS := fun D σ H => te σ H fun _ H1 => D.nx σ H1
theorem ps_expr (he : PE X e te) (hs : swapsWith e none pos.line X.env = pure false := by rfl) : PS X (.Expr e pos) (tDrop te) := by
  intro pins s σ H D I h
  exact wpAny_Expr_any (thn (he pins s σ H _ I h) fun v s1 ⟨x, H1, I1, r1, q1⟩ => ⟨σ, H1, I1, q1⟩) I.quiet hs
noncomputable def tRet (te : TE) : TS := fun D σ H => te σ H D.rt
theorem ps_ret (he : PE X e te) : PS X (.Return (some e) pos) (tRet te) := by
  intro pins s σ H D I h
  exact wpAny_Return_some (thn (he pins s σ H _ I h) fun v s1 ⟨x, H1, I1, r1, q1⟩ => ⟨x, σ, H1, I1, r1, q1⟩)
noncomputable def tIfS (c : TT) (t u : TS) : TS := fun D σ H => c σ H fun b H1 => if b = true then t D σ H1 else u D σ H1
theorem ps_if {c : Expr} {a b : List Stmt} {tc : TT} (hc : PT X c tc) (ha : PSs X a t) (hb : PSs X b u) : PS X (.If c a b pos) (tIfS tc t u) := by
  intro pins s σ H D I h
  refine wpAny_If (thn (hc pins s σ H _ I h) fun d s1 ⟨H1, I1, q1⟩ => ?_)
  cases d with
  | true => exact ha pins s1 σ H1 D I1 q1
  | false => exact hb pins s1 σ H1 D I1 q1
end

/-! ### targets -/
noncomputable abbrev TG := V → St → Hp → (St → Hp → Prop) → Prop
noncomputable abbrev TGs := List V → St → Hp → (St → Hp → Prop) → Prop
noncomputable def PG (X : Cx) (target : Expr) (t : TG) : Prop :=
  ∀ (pins : List (Addr × Obj)) (s : Shared) (σ : St) (H : Hp) (v : V) (u : Value) (Q : St → Hp → Prop), Inv X pins σ H s → RelV v u → t v σ H Q →
    wpAny (model X.prog X.w) X.A (assign target X.env u) (fun _ s' => ∃ σ' H', Inv X pins σ' H' s' ∧ Q σ' H') X.xe s
/-- several targets, one after another -/
noncomputable def PGs (X : Cx) (ts : List Expr) (t : TGs) : Prop :=
  ∀ (pins : List (Addr × Obj)) (s : Shared) (σ : St) (H : Hp) (vs : List V) (us : List Value) (Q : St → Hp → Prop), Inv X pins σ H s → Vals vs us → t vs σ H Q →
    wpAny (model X.prog X.w) X.A (assignInOrder ((assignEach ts X.env).map (·.2)) us) (fun _ s' => ∃ σ' H', Inv X pins σ' H' s' ∧ Q σ' H') X.xe s
section
variable {X : Cx} {pos : Pos}
noncomputable def gName (i : Nat) : TG := fun v σ H Q => Q (σ.set i (some v)) H
theorem pg_name {i : Nat} {x : Str} (hN : X.N.Nodup) (hi : X.N[i]? = some x) (hx : Loc X.env.scope x) (hf : X.fn x = true ∨ X.env.scope.names.lookup x = some .local := by first | exact .inl rfl | exact .inr rfl | assumption) : PG X (.Name x pos) (gName i) := by
  intro pins s σ H v u Q I r h
  exact wpAny_assign_Name (store_ok I hN hi hx r (fun s' I' => ⟨_, H, I', h⟩) hf)
noncomputable def gNil : TGs := fun vs σ H Q => vs = [] ∧ Q σ H
noncomputable def gCons (t : TG) (u : TGs) : TGs := fun vs σ H Q => ∃ v r, vs = v :: r ∧ t v σ H fun σ' H' => u r σ' H' Q
theorem pgs_nil : PGs X [] gNil := by
  intro pins s σ H vs us Q I r h
  obtain ⟨e, h⟩ := h
  subst e
  cases r
  exact assignInOrder_nil ⟨σ, H, I, h⟩
theorem pgs_cons {e : Expr} {es : List Expr} {t : TG} {u : TGs} (h1 : PG X e t) (h2 : PGs X es u)
    (hs : (assignEach (e :: es) X.env).map (·.2) = assign e X.env :: (assignEach es X.env).map (·.2) := by rfl) : PGs X (e :: es) (gCons t u) := by
  intro pins s σ H vs us Q I r h
  obtain ⟨v, vr, e1, h⟩ := h
  subst e1
  cases r with
  | cons r rr =>
    rw [hs]
    refine assignInOrder_cons (thn (h1 pins s σ H _ _ _ I r h) fun _ s1 ⟨σ1, H1, I1, q1⟩ => ?_)
    exact h2 pins s1 σ1 H1 _ _ Q I1 rr q1
/-- (a, b, ..) = a tuple of that length -/
noncomputable def gTup (K : PySem.W.Frag) (n : Nat) (t : TGs) : TG := fun v σ H Q => ∃ a xs, v = .ref a ∧ SqT K H a xs ∧ xs.length = n ∧ t xs σ H Q
theorem pg_tup {es : List Expr} {k : Nat} {t : TGs} {n : Nat} (hc : X.calm = true) (h : PGs X es t)
    (hn : (assignEach es X.env).length = n := by rfl) (hst : (assignEach es X.env).findIdx? (·.1) = none := by rfl) : PG X (.Tuple es k pos) (gTup X.K n t) := by
  intro pins s σ H v u Q I r hw
  obtain ⟨a, xs, e1, hq, hl, hw⟩ := hw
  subst e1
  cases r
  obtain ⟨its, rv, ht, hz⟩ := I.tuple hq
  refine assign_Tuple_tuple (I.ok.hd hc) ht (by simp [hn, ← hl, rv.length]) hst fun h' hx => ?_
  have I1 : Inv X pins σ H { s with heap := h' } := I.kept (t' := s.toks) fun b o e => hx b o (Nat.ne_of_lt (Heap.lt_size e)) e
  exact h pins _ σ H xs _ Q I1 (by simpa using rv) hw
/-- target = value -/
noncomputable def tAsg (te : TE) (g : TG) : TS := fun D σ H => te σ H fun x H1 => g x σ H1 D.nx
/-- name = value -/
theorem ps_set {i : Nat} {x : Str} {e : Expr} {te : TE} {pos' : Pos} (hN : X.N.Nodup) (hi : X.N[i]? = some x) (hx : Loc X.env.scope x) (he : PE X e te) (hs : swapsWith e (some (.Name x pos')) pos.line X.env = pure false := by rfl) (hf : X.fn x = true ∨ X.env.scope.names.lookup x = some .local := by first | exact .inl rfl | exact .inr rfl | assumption) :
    PS X (.Assign [.Name x pos'] e pos) (tAsg te (gName i)) := by
  intro pins s σ H D I h
  refine wpAny_Assign_Name (thn (he pins s σ H _ I h) fun v s1 ⟨y, H1, I1, r1, q1⟩ => ?_) hs
  exact store_ok I1 hN hi hx r1 (fun s2 I2 => ⟨_, H1, I2, q1⟩) hf
end

/-! ### while -/
section
variable {X : Cx} {pos : Pos}
/-- the invariant W with its measure -/
noncomputable def tWhile (c : TT) (tb : TS) : TS := fun D σ H => ∃ W : Nat → St → Hp → Prop, (∃ m, W m σ H) ∧ ∀ m σ H, W m σ H →
  c σ H fun b H1 => if b = true then ∃ N : St → Hp → Prop, (∀ σ' H', N σ' H' → ∃ m', m' < m ∧ W m' σ' H') ∧ tb { D with nx := N, ct := N, bk := D.nx } σ H1 else D.nx σ H1
theorem ps_while {c : Expr} {body : List Stmt} {tc : TT} {tb : TS} (hp : PassesOwn (model X.prog X.w) X.A X.env X.xe) (hc : PT X c tc) (hb : PSs X body tb) : PS X (.While c body [] pos) (tWhile tc tb) := by
  intro pins s σ H D I h
  obtain ⟨W, ⟨m0, w0⟩, turn⟩ := h
  refine wpAny_While (codeAny_whileLoop (fun n s' => ∃ σ' H', Inv X pins σ' H' s' ∧ W n σ' H') ?_ m0 ⟨σ, H, I, w0⟩)
  rintro n s1 ⟨σ1, H1, I1, w1⟩
  refine wpAny_passesOwn hp (thn (hc pins s1 σ1 H1 _ I1 (turn n σ1 H1 w1)) fun b s2 ⟨H2, I2, q2⟩ => ?_)
  cases b with
  | true =>
    obtain ⟨N, hN, q2⟩ := q2
    rw [if_pos rfl]
    refine wpAny_passesOwn hp (thn (hb pins s2 σ1 H2 _ I2 q2) fun f s3 q3 => ?_)
    cases f with
    | next =>
      obtain ⟨σ3, H3, I3, n3⟩ := q3
      obtain ⟨m', hm, w3⟩ := hN σ3 H3 n3
      exact ⟨m', hm, σ3, H3, I3, w3⟩
    | cont =>
      obtain ⟨σ3, H3, I3, n3⟩ := q3
      obtain ⟨m', hm, w3⟩ := hN σ3 H3 n3
      exact ⟨m', hm, σ3, H3, I3, w3⟩
    | brk => exact q3
    | ret v => exact q3
  | false =>
    rw [if_neg Bool.false_ne_true]
    exact wpAny_execs_nil ⟨σ1, H2, I2, q2⟩
end

/-! ### what a loop or a comprehension walks -/
/-- at turn i: it yields x (the heap may grow), or it stops -/
structure It where
  go : Nat → Hp → Prop
  yld : Nat → Hp → V → Hp → Prop
  stop : Nat → Hp → Prop
/-- the iterator's own objects may turn: they are not the frame's, not pinned, younger than the entry (or a comprehension's own) -/
noncomputable def FpOk (X : Cx) (pins : List (Addr × Obj)) (H : Hp) (b : Addr) : Prop :=
  H b = none ∧ b ≠ X.env.locals ∧ b ∉ X.fs ∧ (b ∈ X.ex ∨ X.s₀.heap.objs.size ≤ b) ∧ (∀ x c, X.env.cells.lookup x = some c → c ≠ b) ∧ ∀ p ∈ X.pn ++ pins, p.1 ≠ b
theorem Inv.fpOk {X : Cx} {pins : List (Addr × Obj)} {σ : St} {H H' : Hp} {s : Shared} {b : Addr} (I : Inv X pins σ H s) (hb : s.heap.objs.size ≤ b) (hn : H' b = none) : FpOk X pins H' b := by
  refine ⟨hn, Nat.ne_of_gt (Nat.lt_of_lt_of_le I.lt hb), I.nofs hb, .inr (Nat.le_trans I.sz hb), fun x c e z => ?_, fun p hp z => ?_⟩
  · obtain ⟨v, q⟩ := I.cell x c e
    exact absurd (Nat.lt_of_lt_of_le q.lt (by rw [z]; exact hb)) (Nat.lt_irrefl _)
  · exact absurd (Nat.lt_of_lt_of_le (Heap.lt_size (I.pin p hp).1) (by rw [z]; exact hb)) (Nat.lt_irrefl _)
structure Turn (P : Program) (w : World) (K : PySem.W.Frag) (tg : Expr) (J : It) (fp : List Addr) (it : Addr) (tn : Nat → Heap → Prop) : Prop where
  mem : it ∈ fp
  obj : ∀ i h, tn i h → ∀ b ∈ fp, ∃ o, h.get? b = some o ∧ ∀ v, o.data ≠ .cell v
  keep : ∀ i h h', tn i h → (∀ b ∈ fp, ∀ o, h.get? b = some o → h'.get? b = some o) → tn i h'
  item : ∀ (X : Cx), X.prog = P → X.w = w → X.K = K → X.calm = true → ∀ (i : Nat) (pins : List (Addr × Obj)) (s : Shared) (σ : St) (H : Hp) (E : Value → Shared → Prop), Inv X pins σ H s → (∀ b ∈ fp, FpOk X pins H b) → tn i s.heap → J.go i H →
    wpAny (model P w) X.A (pyNext (.ref it)) (fun r s1 => ∃ u, r = some u ∧
      wpAny (model P w) X.A (letOwnedTupleGo tg (.ref it) u) (fun _ s2 => ∃ x H', Inv X pins σ H' s2 ∧ RelV x u ∧ J.yld i H x H' ∧ tn (i + 1) s2.heap ∧ ∀ b ∈ fp, H' b = none) E s1) E s
  done : ∀ (X : Cx), X.prog = P → X.w = w → X.K = K → X.calm = true → ∀ (i : Nat) (pins : List (Addr × Obj)) (s : Shared) (σ : St) (H : Hp) (E : Value → Shared → Prop), Inv X pins σ H s → (∀ b ∈ fp, FpOk X pins H b) → tn i s.heap → J.stop i H →
    wpAny (model P w) X.A (pyNext (.ref it)) (fun r s1 => r = none ∧ Inv X pins σ H s1) E s
  self : ∀ (A : Around) (i : Nat) (s : Shared) (Q : Value → Shared → Prop) (E : Value → Shared → Prop), tn i s.heap → Q (.ref it) s → wpAny (model P w) A (pyIter (.ref it)) Q E s
noncomputable abbrev TI := St → Hp → (It → Hp → Prop) → Prop
/-- an iterator has come -/
noncomputable def PIE (X : Cx) (pins : List (Addr × Obj)) (σ : St) (tg : Expr) (R : It → Hp → Prop) (itv : Value) (s2 : Shared) : Prop :=
  ∃ (it : Addr) (fp : List Addr) (tn : Nat → Heap → Prop) (J : It) (H' : Hp), itv = .ref it ∧ Inv X pins σ H' s2 ∧ Turn X.prog X.w X.K tg J fp it tn ∧ tn 0 s2.heap ∧ (∀ b ∈ fp, FpOk X pins H' b) ∧ R J H'
noncomputable def PI (X : Cx) (tg iter : Expr) (wi : TI) : Prop :=
  ∀ (pins : List (Addr × Obj)) (s : Shared) (σ : St) (H : Hp) (R : It → Hp → Prop), Inv X pins σ H s → wi σ H R →
    wpAny (model X.prog X.w) X.A (eval iter X.env) (fun v s1 => wpAny (model X.prog X.w) X.A (pyIter v) (PIE X pins σ tg R) X.xe s1) X.xe s

/-- the step ahead of the store is nothing for an iterator that keeps no tuple -/
theorem go_of {M : Model} {A : Around} {E : Value → Shared → Prop} {s : Shared} {tg : Expr} {it : Addr} {u : Value} {o : Obj} {n : String} {vs : Array Value} {Q : Unit → Shared → Prop} (ho : s.heap.get? it = some o) (hc : o.cls = .type n) (hd : o.data = .fields vs)
    (hn : ["enumerate", "zip", "dict_itemiterator", "dict_reverseitemiterator", "odict_iterator", "itertools.zip_longest", "itertools.pairwise"].contains n = false) (hQ : Q () s) : wpAny M A (letOwnedTupleGo tg (.ref it) u) Q E s := by
  unfold letOwnedTupleGo
  cases tg <;> first
    | exact wpAny_pure hQ
    | (cases u <;> first
        | exact wpAny_pure hQ
        | (refine wpAny_bind (wpAny_load ho ?_)
           rw [hc, hd]
           show wpAny M A (if (["enumerate", "zip", "dict_itemiterator", "dict_reverseitemiterator", "odict_iterator", "itertools.zip_longest", "itertools.pairwise"].contains n && vs[0]? == some (rawInt _)) = true then _ else _) Q E s
           rw [if_neg (by intro h; rw [hn, Bool.false_and] at h; cases h)]
           exact wpAny_pure hQ))

/-- the list at a, as it stands at each turn (a loop may append to it) -/
noncomputable def Itl (K : PySem.W.Frag) (a : Addr) : It :=
  ⟨fun i H => ∃ xs x, SqL K H a xs ∧ xs[i]? = some x, fun i H x H' => H' = H ∧ ∀ xs, SqL K H a xs → xs[i]? = some x, fun i H => ∃ xs, SqL K H a xs ∧ xs.length ≤ i⟩
noncomputable def Itt (K : PySem.W.Frag) (a : Addr) : It :=
  ⟨fun i H => ∃ xs x, SqT K H a xs ∧ xs[i]? = some x, fun i H x H' => H' = H ∧ ∀ xs, SqT K H a xs → xs[i]? = some x, fun i H => ∃ xs, SqT K H a xs ∧ xs.length ≤ i⟩
/-- lo, lo + 1, .. (n of them) -/
noncomputable def Itr (lo : Int) (n : Nat) : It := ⟨fun i _ => i < n, fun i H x H' => H' = H ∧ x = .int (lo + i), fun i _ => n ≤ i⟩
theorem turn_list {P : Program} {w : World} {K : PySem.W.Frag} {tg : Expr} (a it : Addr) : Turn P w K tg (Itl K a) [it] it (fun i h => h.IsListIter it a i) where
  mem := by simp
  obj := fun i h st b hb => by
    have e : b = it := by simpa using hb
    subst e
    obtain ⟨o, e, c, d⟩ := st
    exact ⟨o, e, fun v z => by rw [d] at z; cases z⟩
  keep := fun i h h' st k => st.at fun o e => k it (by simp) o e
  item := by
    intro X hP hw hK hc i pins s σ H E I hf st hg
    subst hP hw hK
    obtain ⟨xs, x, hq, hx⟩ := hg
    obtain ⟨its, rv, p, hz⟩ := I.list hq
    obtain ⟨u, hu, ru⟩ := rv.get hx
    obtain ⟨f0, f1, f2, f3, f4, f5⟩ := hf it (by simp)
    refine wpAny_pyNext_list_item st p.isList (x := u) (by simpa using hu) fun h' st' sb => ?_
    have I1 : Inv X pins σ H { s with heap := h' } := I.turned (t' := s.toks) (fun b o hb e => (sb.2 b hb).trans e) f0 f1 f3 f4 f5
    obtain ⟨o, e, c, d⟩ := id st'
    exact ⟨u, rfl, go_of (s := { s with heap := h' }) e c d (by decide) ⟨x, H, I1, ru, ⟨rfl, fun ys hy => by rw [I.list_inj hy hq]; exact hx⟩, st', fun b hb => (hf b hb).1⟩⟩
  done := by
    intro X hP hw hK hc i pins s σ H E I hf st hg
    subst hP hw hK
    obtain ⟨xs, hq, hx⟩ := hg
    obtain ⟨its, rv, p, hz⟩ := I.list hq
    obtain ⟨f0, f1, f2, f3, f4, f5⟩ := hf it (by simp)
    have hl := rv.length
    exact wpAny_pyNext_list_end (I.ok.hd hc) st p.isList (by simp; omega) fun h' eb => ⟨rfl, I.turned (t' := s.toks) (fun b o hb e => eb b o hb e) f0 f1 f3 f4 f5⟩
  self := fun _ _ _ _ _ st h => wpAny_pyIter_listiter st h
theorem turn_tuple {P : Program} {w : World} {K : PySem.W.Frag} {tg : Expr} (a it : Addr) : Turn P w K tg (Itt K a) [it] it (fun i h => h.IsTupleIter it a i) where
  mem := by simp
  obj := fun i h st b hb => by
    have e : b = it := by simpa using hb
    subst e
    obtain ⟨o, e, c, d⟩ := st
    exact ⟨o, e, fun v z => by rw [d] at z; cases z⟩
  keep := fun i h h' st k => st.at fun o e => k it (by simp) o e
  item := by
    intro X hP hw hK hc i pins s σ H E I hf st hg
    subst hP hw hK
    obtain ⟨xs, x, hq, hx⟩ := hg
    obtain ⟨its, rv, p, hz⟩ := I.tuple hq
    obtain ⟨u, hu, ru⟩ := rv.get hx
    obtain ⟨f0, f1, f2, f3, f4, f5⟩ := hf it (by simp)
    refine wpAny_pyNext_tuple_item st (show s.heap.IsTuple a its.toArray from p) (x := u) (by simpa using hu) fun h' st' sb => ?_
    have I1 : Inv X pins σ H { s with heap := h' } := I.turned (t' := s.toks) (fun b o hb e => (sb.2 b hb).trans e) f0 f1 f3 f4 f5
    obtain ⟨o, e, c, d⟩ := id st'
    exact ⟨u, rfl, go_of (s := { s with heap := h' }) e c d (by decide) ⟨x, H, I1, ru, ⟨rfl, fun ys hy => by rw [I.tuple_inj hy hq]; exact hx⟩, st', fun b hb => (hf b hb).1⟩⟩
  done := by
    intro X hP hw hK hc i pins s σ H E I hf st hg
    subst hP hw hK
    obtain ⟨xs, hq, hx⟩ := hg
    obtain ⟨its, rv, p, hz⟩ := I.tuple hq
    obtain ⟨f0, f1, f2, f3, f4, f5⟩ := hf it (by simp)
    have hl := rv.length
    exact wpAny_pyNext_tuple_end (I.ok.hd hc) st (show s.heap.IsTuple a its.toArray from p) (by simp; omega) fun h' eb => ⟨rfl, I.turned (t' := s.toks) (fun b o hb e => eb b o hb e) f0 f1 f3 f4 f5⟩
  self := fun _ _ _ _ _ st h => wpAny_pyIter_tupleiter st h
theorem turn_range {P : Program} {w : World} {K : PySem.W.Frag} {tg : Expr} (it : Addr) (lo : Int) (n : Nat) : Turn P w K tg (Itr lo n) [it] it (fun i h => IsRangeIter h it (lo + (i : Nat) * 1) ((n : Int) - (i : Nat)) 1) where
  mem := by simp
  obj := fun i h st b hb => by
    have e : b = it := by simpa using hb
    subst e
    exact ⟨_, st, fun v z => by
      have z' : Data.fields _ = Data.cell v := z
      cases z'⟩
  keep := fun i h h' st k => k it (by simp) _ st
  item := by
    intro X hP hw hK hc i pins s σ H E I hf st hg
    subst hP hw hK
    obtain ⟨f0, f1, f2, f3, f4, f5⟩ := hf it (by simp)
    have W := Walks.range (prog := X.prog) (w := X.w) (I.ok.hd hc) it lo 1 n
    refine W.item i s _ _ hg st fun v h' tk hv st' kk => ?_
    obtain ⟨t, rfl⟩ := hv
    have I1 : Inv X pins σ H { s with heap := h', toks := tk } := I.turned (fun b o hb e => kk b o (by simpa using hb) e) f0 f1 f3 f4 f5
    refine ⟨_, rfl, go_of (s := { s with heap := h', toks := tk }) (n := "range_iterator") st' rfl rfl (by decide) ⟨.int (lo + i), H, I1, ⟨t, ?_⟩, ⟨rfl, rfl⟩, st', fun b hb => (hf b hb).1⟩⟩
    rw [Int.mul_one]
  done := by
    intro X hP hw hK hc i pins s σ H E I hf st hg
    subst hP hw hK
    obtain ⟨f0, f1, f2, f3, f4, f5⟩ := hf it (by simp)
    exact wpAny_pyNext_range_end (I.ok.hd hc) st (by have : n ≤ i := hg; omega) fun h' eb => ⟨rfl, I.turned (t' := s.toks) (fun b o hb e => eb b o hb e) f0 f1 f3 f4 f5⟩
  self := fun _ _ _ _ _ st h => wpAny_pyIter_rangeiter st h
end L2

namespace L2
open PySem PySem.Spec PyProof.Rows
section
variable {X : Cx} {tg : Expr}
noncomputable def iList (K : PySem.W.Frag) (tl : TE) : TI := fun σ H R => tl σ H fun x H1 => ∃ a, x = .ref a ∧ (∃ xs, SqL K H1 a xs) ∧ R (Itl K a) H1
noncomputable def iTup (K : PySem.W.Frag) (tl : TE) : TI := fun σ H R => tl σ H fun x H1 => ∃ a, x = .ref a ∧ (∃ xs, SqT K H1 a xs) ∧ R (Itt K a) H1
theorem pi_list {l : Expr} {tl : TE} (hl : PE X l tl) : PI X tg l (iList X.K tl) := by
  intro pins s σ H R I h
  refine thn (hl pins s σ H _ I h) fun v s1 ⟨x, H1, I1, r1, q1⟩ => ?_
  obtain ⟨a, e, ⟨xs, hq⟩, q⟩ := q1
  subst e
  cases r1
  obtain ⟨its, rv, p, hz⟩ := I1.list hq
  refine wpAny_pyIter_list p.isList ?_
  refine ⟨s1.heap.objs.size, [s1.heap.objs.size], _, _, H1, rfl, I1.kept (t' := s1.toks) fun b o e => Heap.get?_push_of_some _ e, turn_list a _, ⟨_, Heap.get?_push_size _ rfl, rfl, rfl⟩, fun b hb => ?_, q⟩
  have e : b = s1.heap.objs.size := by simpa using hb
  subst e
  exact I1.fpOk (Nat.le_refl _) (I1.hok.fresh (Nat.le_refl _))
theorem pi_tup {l : Expr} {tl : TE} (hl : PE X l tl) : PI X tg l (iTup X.K tl) := by
  intro pins s σ H R I h
  refine thn (hl pins s σ H _ I h) fun v s1 ⟨x, H1, I1, r1, q1⟩ => ?_
  obtain ⟨a, e, ⟨xs, hq⟩, q⟩ := q1
  subst e
  cases r1
  obtain ⟨its, rv, p, hz⟩ := I1.tuple hq
  refine wpAny_pyIter_tuple (show s1.heap.IsTuple a its.toArray from p) ?_
  refine ⟨s1.heap.objs.size, [s1.heap.objs.size], _, _, H1, rfl, I1.kept (t' := s1.toks) fun b o e => Heap.get?_push_of_some _ e, turn_tuple a _, ⟨_, Heap.get?_push_size _ rfl, rfl, rfl⟩, fun b hb => ?_, q⟩
  have e : b = s1.heap.objs.size := by simpa using hb
  subst e
  exact I1.fpOk (Nat.le_refl _) (I1.hok.fresh (Nat.le_refl _))
/-- a range object just made, walked -/
theorem range_it {pins : List (Addr × Obj)} {σ : St} {H : Hp} {s : Shared} {R : It → Hp → Prop} {E : Value → Shared → Prop} {lo hi : Int} {t u v : Tok} {tk : Nat} (I : Inv X pins σ H s) (h1 : -(2 ^ 62) ≤ lo) (h2 : lo < 2 ^ 62) (h3 : -(2 ^ 62) ≤ hi) (h4 : hi < 2 ^ 62)
    (q : R (Itr lo (hi - lo).toNat) H) : wpAny (model X.prog X.w) X.A (pyIter (.ref s.heap.objs.size)) (PIE X pins σ tg R) E { s with heap := s.heap.push { cls := .type "range", data := .fields #[.int lo t, .int hi u, .int 1 v] }, toks := tk } := by
  refine wpAny_pyIter_range (IsRange.new ..) (small_one h1 h2 h3 h4) ?_
  have I1 : Inv X pins σ H { s with heap := s.heap.push { cls := .type "range", data := .fields #[.int lo t, .int hi u, .int 1 v] }, toks := tk } := I.kept fun b o e => Heap.get?_push_of_some _ e
  refine ⟨(s.heap.push { cls := .type "range", data := .fields #[.int lo t, .int hi u, .int 1 v] }).objs.size, [(s.heap.push { cls := .type "range", data := .fields #[.int lo t, .int hi u, .int 1 v] }).objs.size], _, _, H, rfl,
    I1.kept (t' := tk) fun b o e => Heap.get?_push_of_some _ e, turn_range _ lo (hi - lo).toNat, ?_, fun b hb => ?_, q⟩
  · have e1 : lo + ((0 : Nat) : Int) * 1 = lo := by simp
    have e2 : (((hi - lo).toNat : Nat) : Int) - ((0 : Nat) : Int) = Builtin.Range.rangeSize lo hi 1 := by rw [rangeSize_one]; split <;> omega
    show IsRangeIter _ _ (lo + ((0 : Nat) : Int) * 1) ((((hi - lo).toNat : Nat) : Int) - ((0 : Nat) : Int)) 1
    rw [e1, e2]
    exact Heap.get?_push_size _ rfl
  · have e : b = (s.heap.push { cls := .type "range", data := .fields #[.int lo t, .int hi u, .int 1 v] }).objs.size := by simpa using hb
    subst e
    exact I1.fpOk (Nat.le_refl _) (I1.hok.fresh (Nat.le_refl _))
noncomputable def iRng1 (ta : TA) : TI := fun σ H R => ta σ H fun vs H1 => ∃ j : Int, vs = [.int j] ∧ -(2 ^ 62) ≤ j ∧ j < 2 ^ 62 ∧ R (Itr 0 j.toNat) H1
noncomputable def iRng2 (ta : TA) : TI := fun σ H R => ta σ H fun vs H1 => ∃ i j : Int, vs = [.int i, .int j] ∧ (-(2 ^ 62) ≤ i ∧ i < 2 ^ 62 ∧ -(2 ^ 62) ≤ j ∧ j < 2 ^ 62) ∧ R (Itr i (j - i).toNat) H1
theorem pi_range1 {a : Expr} {ta : TA} {p pos : Pos} (hg : Gl X "range") (hm : X.mg "range" = none) (ha : PA X [a] ta) (hs : starEach [a] X.env = [(false, eval a X.env)] := by rfl) : PI X tg (.Call (.Name "range" p) [a] [] pos) (iRng1 ta) := by
  intro pins s σ H R I h
  refine Call_ (ld_blt I hg hm boot_range (PyProof.Rows.callWith_type1 (thn (ha pos pins s σ H _ I h) fun us s1 ⟨vs, H1, I1, r1, q1⟩ => ?_) hs rfl))
  obtain ⟨j, e, q1, q2, q⟩ := q1
  subst e
  cases r1 with
  | cons r rr =>
    cases rr
    obtain ⟨t, rfl⟩ := r
    exact call_range_1 (range_it I1 (by omega) (by omega) q1 q2 (by simpa using q))
theorem pi_range2 {a b : Expr} {ta : TA} {p pos : Pos} (hg : Gl X "range") (hm : X.mg "range" = none) (ha : PA X [a, b] ta) (hs : starEach [a, b] X.env = [(false, eval a X.env), (false, eval b X.env)] := by rfl) (hs2 : starEach [b] X.env = [(false, eval b X.env)] := by rfl) :
    PI X tg (.Call (.Name "range" p) [a, b] [] pos) (iRng2 ta) := by
  intro pins s σ H R I h
  refine Call_ (ld_blt I hg hm boot_range (PyProof.Rows.callWith_type1 (thn (ha pos pins s σ H _ I h) fun us s1 ⟨vs, H1, I1, r1, q1⟩ => ?_) (by rw [hs, hs2]) (by rw [hs2]; rfl)))
  obtain ⟨i, j, e, ⟨q1, q2, q3, q4⟩, q⟩ := q1
  subst e
  cases r1 with
  | cons r rr =>
    cases rr with
    | cons r' rr =>
      cases rr
      obtain ⟨t, rfl⟩ := r
      obtain ⟨t', rfl⟩ := r'
      exact call_range_2 (range_it I1 q1 q2 q3 q4 q)

/-! ### for -/
/-- W: the invariant by the turn and a measure; N: what the body is to reach -/
noncomputable def tFor (wi : TI) (g : TG) (tb : TS) : TS := fun D σ H => wi σ H fun J H1 => ∃ W : Nat → Nat → St → Hp → Prop, (∃ m, W 0 m σ H1) ∧ ∀ i m σ H, W i m σ H →
  (J.stop i H ∧ D.nx σ H) ∨ (J.go i H ∧ ∃ N : St → Hp → Prop, (∀ σ' H', N σ' H' → ∃ m', m' < m ∧ W (i + 1) m' σ' H') ∧ ∀ x H', J.yld i H x H' → g x σ H' fun σ2 H2 => tb { D with nx := N, ct := N, bk := D.nx } σ2 H2)
/-- the records at fp as they stand -/
noncomputable def pinsAt (fp : List Addr) (h : Heap) : List (Addr × Obj) := fp.filterMap fun b => (h.get? b).map fun o => (b, o)
theorem mem_pinsAt {fp : List Addr} {h : Heap} {b : Addr} {o : Obj} (hb : b ∈ fp) (e : h.get? b = some o) : (b, o) ∈ pinsAt fp h := List.mem_filterMap.mpr ⟨b, hb, by rw [e]; rfl⟩
theorem of_pinsAt {fp : List Addr} {h : Heap} {p : Addr × Obj} (hp : p ∈ pinsAt fp h) : p.1 ∈ fp ∧ h.get? p.1 = some p.2 := by
  obtain ⟨b, hb, e⟩ := List.mem_filterMap.mp hp
  cases q : h.get? b with
  | none => rw [q] at e; cases e
  | some o =>
    rw [q] at e
    have e' : (b, o) = p := Option.some.inj e
    subst e'
    exact ⟨hb, q⟩
theorem Inv.pinned {pins : List (Addr × Obj)} {σ : St} {H : Hp} {s : Shared} {fp : List Addr} (I : Inv X pins σ H s) (hf : ∀ b ∈ fp, FpOk X pins H b) (ho : ∀ b ∈ fp, ∃ o, s.heap.get? b = some o ∧ ∀ v, o.data ≠ .cell v) : Inv X (pins ++ pinsAt fp s.heap) σ H s :=
  I.pins_of fun p hp => (List.mem_append.mp hp).elim (fun z => I.pin p (List.mem_append_right _ z)) fun z => by
    obtain ⟨hb, e⟩ := of_pinsAt z
    obtain ⟨f0, f1, f2, _⟩ := hf p.1 hb
    obtain ⟨o, e', d⟩ := ho p.1 hb
    rw [e] at e'; cases e'
    exact ⟨e, f0, f1, f2, d⟩
theorem Inv.unpinned {pins pl : List (Addr × Obj)} {σ : St} {H : Hp} {s : Shared} (I : Inv X (pins ++ pl) σ H s) : Inv X pins σ H s := I.pins_of fun p hp => I.pin p (List.mem_append_right _ (List.mem_append_left _ hp))
theorem ps_for {iter : Expr} {body : List Stmt} {wi : TI} {g : TG} {tb : TS} {pos : Pos} (hp : PassesOwn (model X.prog X.w) X.A X.env X.xe) (hc : X.calm = true) (hi : PI X tg iter wi) (hg : PG X tg g) (hb : PSs X body tb)
    (hs : ∀ x, foldedSetIterable iter X.env x = pure x := by intro _; rfl) : PS X (.For tg iter body [] pos) (tFor wi g tb) := by
  intro pins s σ H D I h
  refine wpAny_For (thn (hi pins s σ H _ I h) fun v s1 h1 => thn h1 fun itv s2 h2 => ?_) hs
  obtain ⟨it, fp, tn, J, H2, e, I2, T, st2, f2, W, ⟨m0, w0⟩, turn⟩ := h2
  subst e
  -- what stays true of the iterator's objects through the loop
  have stat : ∀ {H' : Hp}, (∀ b ∈ fp, H' b = none) → ∀ b ∈ fp, FpOk X pins H' b := fun hn b hb => ⟨hn b hb, (f2 b hb).2⟩
  refine codeAny_forLoop_any (fun n s' => ∃ i σ' H', Inv X pins σ' H' s' ∧ tn i s'.heap ∧ (∀ b ∈ fp, H' b = none) ∧ W i n σ' H') ?_ m0 ⟨0, σ, H2, I2, st2, fun b hb => (f2 b hb).1, w0⟩
  rintro n s3 ⟨i, σ3, H3, I3, st3, fr3, w3⟩
  rcases turn i n σ3 H3 w3 with ⟨stop, qn⟩ | ⟨go, N, hN, step⟩
  · refine wpAny_passesOwn hp (thn (T.done X rfl rfl rfl hc i pins s3 σ3 H3 X.xe I3 (stat fr3) st3 stop) fun r s4 ⟨hr, I4⟩ => ?_)
    subst hr
    exact wpAny_execs_nil ⟨σ3, H3, I4, qn⟩
  · refine wpAny_passesOwn hp (thn (T.item X rfl rfl rfl hc i pins s3 σ3 H3 X.xe I3 (stat fr3) st3 go) fun r s4 ⟨u, hr, h4⟩ => ?_)
    subst hr
    refine wpAny_passesOwn hp (thn h4 fun _ s5 ⟨x, H5, I5, r5, y5, st5, fr5⟩ => ?_)
    have I5' := I5.pinned (stat fr5) (T.obj _ _ st5)
    refine wpAny_passesOwn hp (thn (hg _ s5 σ3 H5 x u _ I5' r5 (step x H5 y5)) fun _ s6 ⟨σ6, H6, I6, q6⟩ => ?_)
    refine wpAny_passesOwn hp (thn (hb _ s6 σ6 H6 _ I6 q6) fun f s7 q7 => ?_)
    have again : ∀ {σ7 : St} {H7 : Hp}, Inv X (pins ++ pinsAt fp s5.heap) σ7 H7 s7 → N σ7 H7 → ∃ m, m < n ∧ ∃ i σ' H', Inv X pins σ' H' s7 ∧ tn i s7.heap ∧ (∀ b ∈ fp, H' b = none) ∧ W i m σ' H' := fun {σ7 H7} I7 n7 => by
      obtain ⟨m', hm, w7⟩ := hN σ7 H7 n7
      refine ⟨m', hm, i + 1, σ7, H7, I7.unpinned, T.keep _ _ _ st5 fun b hb o e => (I7.pin (b, o) (List.mem_append_right _ (List.mem_append_right _ (mem_pinsAt hb e)))).1, fun b hb => ?_, w7⟩
      obtain ⟨o, e, d⟩ := T.obj _ _ st5 b hb
      exact (I7.pin (b, o) (List.mem_append_right _ (List.mem_append_right _ (mem_pinsAt hb e)))).2.1
    cases f with
    | next => obtain ⟨σ7, H7, I7, n7⟩ := q7; exact again I7 n7
    | cont => obtain ⟨σ7, H7, I7, n7⟩ := q7; exact again I7 n7
    | brk => obtain ⟨σ7, H7, I7, q7⟩ := q7; exact ⟨σ7, H7, I7.unpinned, q7⟩
    | ret v => obtain ⟨x7, σ7, H7, I7, r7, q7⟩ := q7; exact ⟨x7, σ7, H7, I7.unpinned, r7, q7⟩
end

/-! ### the forms one uses -/
/-- over a list that the body leaves as it is -/
theorem for_list {K : PySem.W.Frag} {a : Addr} {xs : List V} {g : TG} {tb : TS} {D : Ends} {σ : St} {H : Hp} (Pv : Nat → St → Hp → Prop) (h0 : Pv 0 σ H) (hl : ∀ i σ H, i ≤ xs.length → Pv i σ H → SqL K H a xs)
    (hs : ∀ i x σ H, xs[i]? = some x → Pv i σ H → g x σ H fun σ2 H2 => tb { D with nx := Pv (i + 1), ct := Pv (i + 1), bk := D.nx } σ2 H2) (hd : ∀ σ H, Pv xs.length σ H → D.nx σ H) :
    ∃ W : Nat → Nat → St → Hp → Prop, (∃ m, W 0 m σ H) ∧ ∀ i m σ H, W i m σ H →
      ((Itl K a).stop i H ∧ D.nx σ H) ∨ ((Itl K a).go i H ∧ ∃ N : St → Hp → Prop, (∀ σ' H', N σ' H' → ∃ m', m' < m ∧ W (i + 1) m' σ' H') ∧ ∀ x H', (Itl K a).yld i H x H' → g x σ H' fun σ2 H2 => tb { D with nx := N, ct := N, bk := D.nx } σ2 H2) := by
  refine ⟨fun i m σ H => m = xs.length - i ∧ i ≤ xs.length ∧ Pv i σ H, ⟨xs.length, by simp, Nat.zero_le _, h0⟩, ?_⟩
  rintro i m σ H ⟨rfl, hi, p⟩
  have q := hl i σ H hi p
  by_cases hlt : i < xs.length
  · refine .inr ⟨⟨xs, xs[i], q, by simp [hlt]⟩, Pv (i + 1), fun σ' H' p' => ⟨xs.length - (i + 1), by omega, rfl, hlt, p'⟩, fun x H' y => ?_⟩
    obtain ⟨e, y⟩ := y
    subst e
    exact hs i x σ _ (y xs q) p
  · have e : i = xs.length := by omega
    subst e
    exact .inl ⟨⟨xs, q, Nat.le_refl _⟩, hd σ H p⟩
theorem for_tup {K : PySem.W.Frag} {a : Addr} {xs : List V} {g : TG} {tb : TS} {D : Ends} {σ : St} {H : Hp} (Pv : Nat → St → Hp → Prop) (h0 : Pv 0 σ H) (hl : ∀ i σ H, i ≤ xs.length → Pv i σ H → SqT K H a xs)
    (hs : ∀ i x σ H, xs[i]? = some x → Pv i σ H → g x σ H fun σ2 H2 => tb { D with nx := Pv (i + 1), ct := Pv (i + 1), bk := D.nx } σ2 H2) (hd : ∀ σ H, Pv xs.length σ H → D.nx σ H) :
    ∃ W : Nat → Nat → St → Hp → Prop, (∃ m, W 0 m σ H) ∧ ∀ i m σ H, W i m σ H →
      ((Itt K a).stop i H ∧ D.nx σ H) ∨ ((Itt K a).go i H ∧ ∃ N : St → Hp → Prop, (∀ σ' H', N σ' H' → ∃ m', m' < m ∧ W (i + 1) m' σ' H') ∧ ∀ x H', (Itt K a).yld i H x H' → g x σ H' fun σ2 H2 => tb { D with nx := N, ct := N, bk := D.nx } σ2 H2) := by
  refine ⟨fun i m σ H => m = xs.length - i ∧ i ≤ xs.length ∧ Pv i σ H, ⟨xs.length, by simp, Nat.zero_le _, h0⟩, ?_⟩
  rintro i m σ H ⟨rfl, hi, p⟩
  have q := hl i σ H hi p
  by_cases hlt : i < xs.length
  · refine .inr ⟨⟨xs, xs[i], q, by simp [hlt]⟩, Pv (i + 1), fun σ' H' p' => ⟨xs.length - (i + 1), by omega, rfl, hlt, p'⟩, fun x H' y => ?_⟩
    obtain ⟨e, y⟩ := y
    subst e
    exact hs i x σ _ (y xs q) p
  · have e : i = xs.length := by omega
    subst e
    exact .inl ⟨⟨xs, q, Nat.le_refl _⟩, hd σ H p⟩
theorem for_range {lo : Int} {n : Nat} {g : TG} {tb : TS} {D : Ends} {σ : St} {H : Hp} (Pv : Nat → St → Hp → Prop) (h0 : Pv 0 σ H)
    (hs : ∀ i σ H, i < n → Pv i σ H → g (.int (lo + i)) σ H fun σ2 H2 => tb { D with nx := Pv (i + 1), ct := Pv (i + 1), bk := D.nx } σ2 H2) (hd : ∀ σ H, Pv n σ H → D.nx σ H) :
    ∃ W : Nat → Nat → St → Hp → Prop, (∃ m, W 0 m σ H) ∧ ∀ i m σ H, W i m σ H →
      ((Itr lo n).stop i H ∧ D.nx σ H) ∨ ((Itr lo n).go i H ∧ ∃ N : St → Hp → Prop, (∀ σ' H', N σ' H' → ∃ m', m' < m ∧ W (i + 1) m' σ' H') ∧ ∀ x H', (Itr lo n).yld i H x H' → g x σ H' fun σ2 H2 => tb { D with nx := N, ct := N, bk := D.nx } σ2 H2) := by
  refine ⟨fun i m σ H => m = n - i ∧ i ≤ n ∧ Pv i σ H, ⟨n, by simp, Nat.zero_le _, h0⟩, ?_⟩
  rintro i m σ H ⟨rfl, hi, p⟩
  by_cases hlt : i < n
  · refine .inr ⟨hlt, Pv (i + 1), fun σ' H' p' => ⟨n - (i + 1), by omega, rfl, hlt, p'⟩, fun x H' y => ?_⟩
    obtain ⟨e, y⟩ := y
    subst e y
    exact hs i σ _ hlt p
  · have e : i = n := by omega
    subst e
    exact .inl ⟨Nat.le_refl _, hd σ H p⟩
end L2

namespace L2
open PySem PySem.Spec PyProof.Rows

noncomputable abbrev R2 := V → V → Hp → VK → Prop
/-- a two-place operation on values: f is binaryOp op, inplaceOp op or compareOp op -/
noncomputable def OpR (X : Cx) (f : Value → Value → Sem Value) (r : R2) : Prop :=
  ∀ (pins : List (Addr × Obj)) (s : Shared) (σ : St) (H : Hp) (x y : V) (v u : Value) (Q : VK), Inv X pins σ H s → RelV x v → RelV y u → r x y H Q →
    wpAny (model X.prog X.w) X.A (f v u) (EP X pins σ Q) X.xe s
/-- a one-place operation -/
noncomputable def UnR (X : Cx) (f : Value → Sem Value) (r : V → Hp → VK → Prop) : Prop :=
  ∀ (pins : List (Addr × Obj)) (s : Shared) (σ : St) (H : Hp) (x : V) (v : Value) (Q : VK), Inv X pins σ H s → RelV x v → r x H Q →
    wpAny (model X.prog X.w) X.A (f v) (EP X pins σ Q) X.xe s
/-- a call of a value that is known (a builtin, a type) with values -/
noncomputable def CallR (X : Cx) (f : Value) (r : List V → Hp → VK → Prop) : Prop :=
  ∀ (pins : List (Addr × Obj)) (s : Shared) (σ : St) (H : Hp) (xs : List V) (us : List Value) (Q : VK), Inv X pins σ H s → Vals xs us → r xs H Q →
    wpAny (model X.prog X.w) X.A (call f us) (EP X pins σ Q) X.xe s
/-- a value's truth -/
noncomputable def TruR (X : Cx) (r : V → Hp → (Bool → Hp → Prop) → Prop) : Prop :=
  ∀ (pins : List (Addr × Obj)) (s : Shared) (σ : St) (H : Hp) (x : V) (v : Value) (Q : Bool → Hp → Prop), Inv X pins σ H s → RelV x v → r x H Q →
    wpAny (model X.prog X.w) X.A (truthy v) (TP X pins σ Q) X.xe s

noncomputable def tOp (r : R2) (ta tb : TE) : TE := fun σ H Q => ta σ H fun x H1 => tb σ H1 fun y H2 => r x y H2 Q
noncomputable def tUn (r : V → Hp → VK → Prop) (ta : TE) : TE := fun σ H Q => ta σ H fun x H1 => r x H1 Q
/-- ints in, under C, and a value out -/
noncomputable def rI (C : Int → Int → Prop) (g : Int → Int → V) : R2 := fun x y H Q => ∃ i j, x = .int i ∧ y = .int j ∧ C i j ∧ Q (g i j) H
noncomputable def rI0 (g : Int → Int → V) : R2 := fun x y H Q => ∃ i j, x = .int i ∧ y = .int j ∧ Q (g i j) H
noncomputable def rU (g : Int → V) : V → Hp → VK → Prop := fun x H Q => ∃ i, x = .int i ∧ Q (g i) H

section
variable {X : Cx} {a b c : Expr} {ta tb tc : TE} {pos : Pos}

theorem binT (ha : PE X a ta) (hb : PE X b tb) {pins : List (Addr × Obj)} {s : Shared} {σ : St} {H : Hp} {R : V → V → Hp → Prop} (I : Inv X pins σ H s)
    (h : ta σ H fun x H1 => tb σ H1 fun y H2 => R x y H2) {Q : Value → Shared → Prop} {f : Value → Value → Sem Value}
    (hf : ∀ v u s2 x y H2, Inv X pins σ H2 s2 → RelV x v → RelV y u → R x y H2 → wpAny (model X.prog X.w) X.A (f v u) Q X.xe s2) :
    wpAny (model X.prog X.w) X.A (eval a X.env) (fun v s₁ => wpAny (model X.prog X.w) X.A (eval b X.env) (fun u s₂ => wpAny (model X.prog X.w) X.A (f v u) Q X.xe s₂) X.xe s₁) X.xe s := by
  refine thn (ha pins s σ H _ I h) fun v s1 ⟨x, H1, I1, r1, q1⟩ => ?_
  refine thn (hb pins s1 σ H1 _ I1 q1) fun u s2 ⟨y, H2, I2, r2, q2⟩ => ?_
  exact hf v u s2 x y H2 I2 r1 r2 q2

theorem pe_op {op : Operator} {r : R2} (ho : OpR X (binaryOp op) r) (ha : PE X a ta) (hb : PE X b tb) : PE X (.BinOp a op b pos) (tOp r ta tb) := by
  intro pins s σ H Q I h
  exact wpAny_BinOp (binT ha hb I h fun v u s2 x y H2 I2 rx ry q => ho pins s2 σ H2 x y v u Q I2 rx ry q)
theorem pe_un {op : UnaryOp} {r : V → Hp → VK → Prop} (ho : UnR X (unaryOp op) r) (ha : PE X a ta) : PE X (.UnaryOp op a pos) (tUn r ta) := by
  intro pins s σ H Q I h
  exact UnaryOp_ (thn (ha pins s σ H _ I h) fun v s1 ⟨x, H1, I1, r1, q1⟩ => ho pins s1 σ H1 x v Q I1 r1 q1)

/-! ### ints -/
theorem opI {f : Value → Value → Sem Value} {C : Int → Int → Prop} {g : Int → Int → Int}
    (rule : ∀ (i j : Int) (t u : Tok) (s : Shared) (Q : Value → Shared → Prop) (E : Value → Shared → Prop), C i j → Q (.int (g i j) s.toks) { s with toks := s.toks + 1 } → wpAny (model X.prog X.w) X.A (f (.int i t) (.int j u)) Q E s) :
    OpR X f (rI C fun i j => .int (g i j)) := by
  intro pins s σ H x y v u Q I rx ry h
  obtain ⟨i, j, rfl, rfl, hc, q⟩ := h
  obtain ⟨t, rfl⟩ := rx
  obtain ⟨t', rfl⟩ := ry
  exact rule i j t t' s _ _ hc ⟨.int (g i j), H, I.tok _, ⟨_, rfl⟩, q⟩
theorem opI0 {f : Value → Value → Sem Value} {g : Int → Int → Int}
    (rule : ∀ (i j : Int) (t u : Tok) (s : Shared) (Q : Value → Shared → Prop) (E : Value → Shared → Prop), Q (.int (g i j) s.toks) { s with toks := s.toks + 1 } → wpAny (model X.prog X.w) X.A (f (.int i t) (.int j u)) Q E s) :
    OpR X f (rI0 fun i j => .int (g i j)) := by
  intro pins s σ H x y v u Q I rx ry h
  obtain ⟨i, j, rfl, rfl, q⟩ := h
  obtain ⟨t, rfl⟩ := rx
  obtain ⟨t', rfl⟩ := ry
  exact rule i j t t' s _ _ ⟨.int (g i j), H, I.tok _, ⟨_, rfl⟩, q⟩
theorem opB0 {f : Value → Value → Sem Value} {g : Int → Int → Bool}
    (rule : ∀ (i j : Int) (t u : Tok) (s : Shared) (Q : Value → Shared → Prop) (E : Value → Shared → Prop), Q (.bool (g i j)) s → wpAny (model X.prog X.w) X.A (f (.int i t) (.int j u)) Q E s) :
    OpR X f (rI0 fun i j => .bl (g i j)) := by
  intro pins s σ H x y v u Q I rx ry h
  obtain ⟨i, j, rfl, rfl, q⟩ := h
  obtain ⟨t, rfl⟩ := rx
  obtain ⟨t', rfl⟩ := ry
  exact rule i j t t' s _ _ ⟨.bl (g i j), H, I, rfl, q⟩

noncomputable def CPow (i j : Int) : Prop := 0 ≤ j ∧ j ≤ 1000000 ∧ i.natAbs < 2 ^ 64
noncomputable def CMul (i j : Int) : Prop := (-(2 ^ 64) < i ∧ i < 2 ^ 64) ∨ (-(2 ^ 64) < j ∧ j < 2 ^ 64)
theorem CMul.ok {i j : Int} (h : CMul i j) : IntMulOk i j := by
  rcases h with ⟨h1, h2⟩ | ⟨h1, h2⟩
  · exact .of_left (intBits_le_64 h1 h2)
  · exact .of_right (intBits_le_64 h1 h2)

theorem op_add : OpR X (binaryOp .Add) (rI0 fun i j => .int (i + j)) := opI0 fun _ _ _ _ _ _ _ q => add_int q
theorem op_sub : OpR X (binaryOp .Sub) (rI0 fun i j => .int (i - j)) := opI0 fun _ _ _ _ _ _ _ q => sub_int q
theorem op_mul : OpR X (binaryOp .Mult) (rI CMul fun i j => .int (i * j)) := opI fun _ _ _ _ _ _ _ hc q => mul_int q hc.ok
/-- % by a positive divisor of any size -/
theorem op_mod : OpR X (binaryOp .Mod) (rI (fun _ j => 0 < j) fun i j => .int (i % j)) := opI fun i j _ _ _ _ _ hc q => by
  have h1 : (0 : Int) < j := hc
  exact mod_int' (by omega) (by rw [Int.fmod_eq_emod_of_nonneg i (by omega)]; exact q)
theorem op_pow : OpR X (binaryOp .Pow) (rI CPow fun i j => .int (i ^ j.toNat)) := opI fun _ _ _ _ _ _ _ hc q => pow_int_small hc.1 hc.2.1 hc.2.2 q


theorem unI {f : Value → Sem Value} {g : Int → Int}
    (rule : ∀ (i : Int) (t : Tok) (s : Shared) (Q : Value → Shared → Prop) (E : Value → Shared → Prop), Q (.int (g i) s.toks) { s with toks := s.toks + 1 } → wpAny (model X.prog X.w) X.A (f (.int i t)) Q E s) :
    UnR X f (rU fun i => .int (g i)) := by
  intro pins s σ H x v Q I rx h
  obtain ⟨i, rfl, q⟩ := h
  obtain ⟨t, rfl⟩ := rx
  exact rule i t s _ _ ⟨.int (g i), H, I.tok _, ⟨_, rfl⟩, q⟩
theorem un_neg : UnR X (unaryOp .USub) (rU fun i => .int (-i)) := unI fun _ _ _ _ _ q => neg_int q

/-! ### bools among ints: n += (a < b) -/
end

/-! ### comparisons -/
/-- the scalars that == tells apart as data does -/
noncomputable def scal : V → V → Bool
  | .non, .non => true | .non, .int _ => true | .int _, .non => true | .non, .bl _ => true | .bl _, .non => true | .non, .str _ => true | .str _, .non => true
  | .int _, .int _ => true | .bl _, .bl _ => true | .str _, .str _ => true | .byt _, .byt _ => true
  | .int _, .str _ => true | .str _, .int _ => true | .bl _, .str _ => true | .str _, .bl _ => true
  | _, _ => false
noncomputable def rEq : R2 := fun x y H Q => scal x y = true ∧ Q (.bl (decide (x = y))) H

theorem dec_int {i j : Int} : decide (V.int i = V.int j) = (i == j) := by
  rw [Bool.eq_iff_iff]
  simp
theorem dec_bl {i j : Bool} : decide (V.bl i = V.bl j) = (i == j) := by
  rw [Bool.eq_iff_iff]
  simp
theorem dec_str {i j : Str} : decide (V.str i = V.str j) = (i == j) := by
  rw [Bool.eq_iff_iff]
  simp
theorem dec_byt {i j : Array UInt8} : decide (V.byt i = V.byt j) = (i.toList == j.toList) := by
  rw [Bool.eq_iff_iff]
  cases i
  cases j
  simp

section
variable {X : Cx} {a b c : Expr} {ta tb tc : TE} {pos : Pos}
theorem fin_bl {pins : List (Addr × Obj)} {σ : St} {H : Hp} {s : Shared} {Q : VK} {k k' : Bool} (I : Inv X pins σ H s) (q : Q (.bl k) H) (e : k = k') : EP X pins σ Q (.bool k') s := by
  subst e
  exact ⟨.bl k, H, I, rfl, q⟩
theorem op_eq : OpR X (compareOp .Eq) rEq := by
  intro pins s σ H x y v u Q I rx ry h
  obtain ⟨hs, q⟩ := h
  cases x with
  | non =>
    cases rx
    cases y with
    | non => cases ry; exact PySem.EqNone.eq_none_none (fin_bl I q (by simp))
    | bl j => cases ry; exact PySem.EqNone.eq_none_bool (fin_bl I q (by simp))
    | int j => obtain ⟨t', rfl⟩ := ry; exact PySem.EqNone.eq_none_int (fin_bl I q (by simp))
    | str j => obtain ⟨t', rfl⟩ := ry; exact PySem.EqNone.eq_none_str (fin_bl I q (by simp))
    | _ => exact absurd (show false = true from hs) Bool.false_ne_true
  | bl i =>
    cases rx
    cases y with
    | non => cases ry; exact PySem.EqNone.eq_bool_none (fin_bl I q (by simp))
    | bl j => cases ry; exact eq_bool (fin_bl I q dec_bl)
    | str j => obtain ⟨t', rfl⟩ := ry; exact PySem.EqMixed.eq_bool_str (fin_bl I q (by simp))
    | _ => exact absurd (show false = true from hs) Bool.false_ne_true
  | int i =>
    obtain ⟨t, rfl⟩ := rx
    cases y with
    | non => cases ry; exact PySem.EqNone.eq_int_none (fin_bl I q (by simp))
    | int j => obtain ⟨t', rfl⟩ := ry; exact eq_int (fin_bl I q dec_int)
    | str j => obtain ⟨t', rfl⟩ := ry; exact PySem.EqMixed.eq_int_str (fin_bl I q (by simp))
    | _ => exact absurd (show false = true from hs) Bool.false_ne_true
  | str i =>
    obtain ⟨t, rfl⟩ := rx
    cases y with
    | non => cases ry; exact PySem.EqNone.eq_str_none (fin_bl I q (by simp))
    | bl j => cases ry; exact PySem.EqMixed.eq_str_bool (fin_bl I q (by simp))
    | int j => obtain ⟨t', rfl⟩ := ry; exact PySem.EqMixed.eq_str_int (fin_bl I q (by simp))
    | str j => obtain ⟨t', rfl⟩ := ry; exact eq_str (fin_bl I q dec_str)
    | _ => exact absurd (show false = true from hs) Bool.false_ne_true
  | byt i =>
    obtain ⟨t, rfl⟩ := rx
    cases y with
    | byt j => obtain ⟨t', rfl⟩ := ry; exact PySem.W.eq_bytes (fin_bl I q dec_byt)
    | _ => exact absurd (show false = true from hs) Bool.false_ne_true
  | _ => cases y <;> exact absurd (show false = true from hs) Bool.false_ne_true

theorem op_lt : OpR X (compareOp .Lt) (rI0 fun i j => .bl (decide (i < j))) := opB0 fun _ _ _ _ _ _ _ q => lt_int q
theorem op_le : OpR X (compareOp .LtE) (rI0 fun i j => .bl (decide (i ≤ j))) := opB0 fun _ _ _ _ _ _ _ q => le_int q
theorem op_gt : OpR X (compareOp .Gt) (rI0 fun i j => .bl (decide (j < i))) := opB0 fun _ _ _ _ _ _ _ q => gt_int q
theorem op_ge : OpR X (compareOp .GtE) (rI0 fun i j => .bl (decide (j ≤ i))) := opB0 fun _ _ _ _ _ _ _ q => ge_int q
/-- the one string within the other -/
theorem op_in_str : OpR X (compareOp .In) (fun x y H Q => ∃ i j, x = .str i ∧ y = .str j ∧ Q (.bl (!(Builtin.Str.occurrences j i 0 j.length 1).isEmpty)) H) := by
  intro pins s σ H x y v u Q I rx ry h
  obtain ⟨i, j, rfl, rfl, q⟩ := h
  obtain ⟨t, rfl⟩ := rx
  obtain ⟨t', rfl⟩ := ry
  exact in_str (fin_bl I q rfl)




theorem nomark (b : Expr) {op : CmpOp} (h : op ≠ .In := by decide) (h2 : op ≠ .NotIn := by decide) : behindInMarks op b = false := by
  have e1 : (op == CmpOp.In) = false := by cases op <;> first | rfl | exact absurd rfl h
  have e2 : (op == CmpOp.NotIn) = false := by cases op <;> first | rfl | exact absurd rfl h2
  cases b <;> simp [behindInMarks, e1, e2]
/-- a comparison as a value; hm: nomark b, or (for in, not in) by with_unfolding_all rfl -/
theorem pe_cmpR {op : CmpOp} {r : R2} (ho : OpR X (compareOp op) r) (ha : PE X a ta) (hb : PE X b tb) (hm : behindInMarks op b = false) : PE X (.Compare a [op] [b] pos) (tOp r ta tb) := by
  intro pins s σ H Q I h
  exact wpAny_Compare1 (binT ha hb I h fun v u s2 x y H2 I2 rx ry q => ho pins s2 σ H2 x y v u Q I2 rx ry q) hm
/-- a reading of a value as a test -/
noncomputable def tTest (t : TE) : TT := fun σ H Q => t σ H fun x H' => ∃ k, x = .bl k ∧ Q k H'
theorem pt_cmpR {op : CmpOp} {r : R2} (ho : OpR X (compareOp op) r) (ha : PE X a ta) (hb : PE X b tb) (hm : behindInMarks op b = false) : PT X (.Compare a [op] [b] pos) (tTest (tOp r ta tb)) := by
  intro pins s σ H Q I h
  refine wpAny_isTrue_Compare1 (thn (ha pins s σ H _ I h) fun v s1 ⟨x, H1, I1, r1, q1⟩ => thn (hb pins s1 σ H1 _ I1 q1) fun u s2 ⟨y, H2, I2, r2, q2⟩ =>
    thn (ho pins s2 σ H2 x y v u _ I2 r1 r2 q2) fun c s3 ⟨z, H3, I3, r3, k, e, q3⟩ => ?_) hm
  subst e
  cases r3
  exact wpAny_truthy_bool ⟨H3, I3, q3⟩
/-- a op1 b op2 c -/
noncomputable def tChain (r r' : R2) (ta tb tc : TE) : TE := fun σ H Q => ta σ H fun x H1 => tb σ H1 fun y H2 => r x y H2 fun z H3 => ∃ k, z = .bl k ∧
  (if k = true then tc σ H3 fun w' H4 => r' y w' H4 Q else Q (.bl false) H3)
theorem pt_chain {op op' : CmpOp} {r r' : R2} (ho : OpR X (compareOp op) r) (ho' : OpR X (compareOp op') r') (ha : PE X a ta) (hb : PE X b tb) (hc : PE X c tc)
    (hm : lastMarks [op, op'] [b, c] = false := by with_unfolding_all rfl) : PT X (.Compare a [op, op'] [b, c] pos) (tTest (tChain r r' ta tb tc)) := by
  intro pins s σ H Q I h
  refine isTrue_chain (thn (ha pins s σ H _ I h) fun v s1 ⟨x, H1, I1, r1, q1⟩ => test_link (thn (hb pins s1 σ H1 _ I1 q1) fun u s2 ⟨y, H2, I2, r2, q2⟩ =>
    thn (ho pins s2 σ H2 x y v u _ I2 r1 r2 q2) fun d s3 ⟨z, H3, I3, r3, k, e, q3⟩ => ?_)) hm
  subst e
  cases r3
  refine wpAny_truthy_bool ?_
  cases k with
  | false =>
    obtain ⟨k', e', q'⟩ := q3
    cases e'
    exact ite_ff ⟨H3, I3, q'⟩
  | true =>
    refine ite_tt (test_last (thn (hc pins s3 σ H3 _ I3 q3) fun w' s4 ⟨z', H4, I4, r4, q4⟩ => thn (ho' pins s4 σ H4 y z' u w' _ I4 r2 r4 q4) fun d' s5 ⟨z2, H5, I5, r5, k2, e2, q5⟩ => ?_))
    subst e2
    cases r5
    exact wpAny_truthy_bool ⟨H5, I5, q5⟩

/-! ### truth -/
/-- a value's truth by the abstract heap -/
noncomputable def TruV (K : PySem.W.Frag) (x : V) (H : Hp) (k : Bool) : Prop :=
  match x with
  | .non => k = false
  | .bl b => k = b
  | .int i => k = (i != 0)
  | .str y => y.length ≤ sizeLine ∧ k = ((y.length : Int) != 0)
  | .byt y => y.size ≤ sizeLine ∧ k = ((y.size : Int) != 0)
  | .ref p => (∃ xs, SqL K H p xs ∧ k = !xs.isEmpty) ∨ (∃ xs, SqT K H p xs ∧ k = !xs.isEmpty) ∨ ∃ kvs, H p = some (.dK kvs) ∧ k = !kvs.isEmpty
  | _ => False
theorem isEmpty_kv {κ : Type} {kvs : List (κ × V)} {vs : List (κ × Value)} (r : KV kvs vs) : (!vs.isEmpty) = !kvs.isEmpty := by
  cases r <;> rfl
theorem isEmpty_of {xs : List V} {its : List Value} (r : Vals xs its) : (!its.toArray.isEmpty) = !xs.isEmpty := by
  cases r <;> simp
theorem line63 : (sizeLine : Nat) < 2 ^ 63 := by rw [sizeLine_eq]; decide
theorem tru_ok : TruR X (fun x H Q => ∃ k, TruV X.K x H k ∧ Q k H) := by
  intro pins s σ H x v Q I rx h
  obtain ⟨k, e, q⟩ := h
  have hl := line63
  have hs : sizeLine = 16777216 := sizeLine_eq
  cases x with
  | non =>
    cases rx
    have e' : k = false := e
    subst e'
    exact truthy_none ⟨H, I, q⟩
  | bl b =>
    cases rx
    have e' : k = b := e
    subst e'
    exact wpAny_truthy_bool ⟨H, I, q⟩
  | int i =>
    obtain ⟨t, rfl⟩ := rx
    have e' : k = (i != 0) := e
    subst e'
    exact PySem.P.truthy_int ⟨H, I, q⟩
  | str y =>
    obtain ⟨t, rfl⟩ := rx
    obtain ⟨hy, e'⟩ : y.length ≤ sizeLine ∧ k = ((y.length : Int) != 0) := e
    subst e'
    exact PySem.P.truthy_str (by omega) ⟨H, I.tok _, q⟩
  | byt y =>
    obtain ⟨t, rfl⟩ := rx
    obtain ⟨hy, e'⟩ : y.size ≤ sizeLine ∧ k = ((y.size : Int) != 0) := e
    subst e'
    exact PySem.W.truthy_bytes (by omega) ⟨H, I.tok _, q⟩
  | ref p =>
    cases rx
    have e' : (∃ xs, SqL X.K H p xs ∧ k = !xs.isEmpty) ∨ (∃ xs, SqT X.K H p xs ∧ k = !xs.isEmpty) ∨ ∃ kvs, H p = some (.dK kvs) ∧ k = !kvs.isEmpty := e
    rcases e' with ⟨xs, hx, e'⟩ | ⟨xs, hx, e'⟩ | ⟨kvs, hx, e'⟩
    · subst e'
      obtain ⟨its, r, pl, hz⟩ := I.list hx
      have hlen := r.length
      exact wpAny_truthy_list pl.isList (by simp only [List.size_toArray]; omega) ⟨H, I.tok _, by rw [isEmpty_of r]; exact q⟩
    · subst e'
      obtain ⟨its, r, pl, hz⟩ := I.tuple hx
      have hlen := r.length
      exact truthy_tuple pl (by simp only [List.size_toArray]; omega) ⟨H, I.tok _, by rw [isEmpty_of r]; exact q⟩
    · subst e'
      obtain ⟨hz, hS, vs, r, m⟩ : kvs.length ≤ sizeLine ∧ (p == sysModules) = false ∧ ∃ vs, KV kvs vs ∧ s.heap.DictOf (mixKind X.prog X.w) p vs := I.hok p _ hx
      have hlen : kvs.length = vs.length := Paired.length r
      exact wpAny_truthy_dict hS m (by omega) ⟨H, I.tok _, by rw [isEmpty_kv r]; exact q⟩
  | _ => exact (show False from e).elim
/-- any expression whose test is its value's truth (a name, a call, a subscript, a field ..: he by fun _ => rfl) -/
theorem pt_truth (ha : PE X a ta) (he : ∀ whole, isTrue a X.env whole = (do let v ← whole; standAt a.pos; holding [v] (truthy v))) :
    PT X a (fun σ H Q => ta σ H fun x H' => ∃ k, TruV X.K x H' k ∧ Q k H') := by
  intro pins s σ H Q I h
  exact isTrue_plain (thn (ha pins s σ H _ I h) fun v s1 ⟨x, H1, I1, r1, q1⟩ => tru_ok pins s1 σ H1 x v Q I1 r1 q1) (he _)

/-! ### strs and bytes -/
theorem op_add_str : OpR X (binaryOp .Add) (fun x y H Q => ∃ i j, x = .str i ∧ y = .str j ∧ i.length + j.length ≤ sizeLine ∧ Q (.str (i ++ j)) H) := by
  intro pins s σ H x y v u Q I rx ry h
  obtain ⟨i, j, rfl, rfl, hz, q⟩ := h
  obtain ⟨t, rfl⟩ := rx
  obtain ⟨t', rfl⟩ := ry
  exact add_str (fun t' tk => ⟨.str (i ++ j), H, I.tok _, ⟨_, rfl⟩, q⟩) hz


/-! ### scalar builtins, by CallR -/
theorem vals1 {x : V} {us : List Value} (r : Vals [x] us) : ∃ u, us = [u] ∧ RelV x u := by
  cases r with
  | cons r1 r2 => cases r2; exact ⟨_, rfl, r1⟩
theorem vals2 {x y : V} {us : List Value} (r : Vals [x, y] us) : ∃ u w', us = [u, w'] ∧ RelV x u ∧ RelV y w' := by
  cases r with
  | cons r1 r2 =>
    cases r2 with
    | cons r3 r4 => cases r4; exact ⟨_, _, rfl, r1, r3⟩
theorem call_max2 (hc : X.calm = true) : CallR X (.builtin "max") (fun xs H Q => ∃ i j, xs = [.int i, .int j] ∧ Q (.int (if j > i then j else i)) H) := by
  intro pins s σ H xs us Q I r h
  obtain ⟨i, j, rfl, q⟩ := h
  obtain ⟨u, w', rfl, ⟨t, rfl⟩, ⟨t', rfl⟩⟩ := vals2 r
  refine max_two_ints (I.ok.hd hc) fun h' tk k => ⟨_, H, I.kept k, ?_, q⟩
  by_cases hj : j > i
  · rw [if_pos hj, if_pos hj]; exact ⟨_, rfl⟩
  · rw [if_neg hj, if_neg hj]; exact ⟨_, rfl⟩
theorem call_min2 (hc : X.calm = true) : CallR X (.builtin "min") (fun xs H Q => ∃ i j, xs = [.int i, .int j] ∧ Q (.int (if j < i then j else i)) H) := by
  intro pins s σ H xs us Q I r h
  obtain ⟨i, j, rfl, q⟩ := h
  obtain ⟨u, w', rfl, ⟨t, rfl⟩, ⟨t', rfl⟩⟩ := vals2 r
  refine min_two_ints (I.ok.hd hc) fun h' tk k => ⟨_, H, I.kept k, ?_, q⟩
  by_cases hj : j < i
  · rw [if_pos hj, if_pos hj]; exact ⟨_, rfl⟩
  · rw [if_neg hj, if_neg hj]; exact ⟨_, rfl⟩
end
end L2

namespace L2
open PySem PySem.Spec PyProof.Rows

/-! ### an instance, its attributes a map -/
structure ObjM (h : Heap) (x dx C : Addr) (mA : Str → Option Value) : Prop where
  obj : h.get? x = some (PySem.W.instObj C dx)
  ns : h.Ns1 dx mA
  ne : dx ≠ x

theorem lookIn_ns {h : Heap} {dx : Addr} {mA : Str → Option Value} (n : h.Ns1 dx mA) : ∃ od, h.get? dx = some od ∧ ∀ name, PySem.W.lookIn name od = some (mA name) := by
  obtain ⟨o, es, ep, ho, hd, hk, _, hm⟩ := n
  refine ⟨o, ho, fun name => ?_⟩
  have e := hm name
  unfold nsFind findBy at e
  rw [← Array.find?_toList] at e
  unfold PySem.W.lookIn
  rw [hd]
  dsimp only
  split
  · rename_i y q
    rw [q] at e
    exact congrArg some e
  · rename_i q
    rw [q] at e
    have a : es.toList.any (·.refKey) = false := by
      rw [List.any_eq_false]
      intro y hy
      obtain ⟨z, t, hkey⟩ := hk y (Array.mem_toList_iff.mp hy)
      simp [DictEntry.refKey, hkey]
    have a' : ¬ es.toList.any (·.refKey) = true := by rw [a]; exact Bool.false_ne_true
    rw [if_neg a']
    exact congrArg some e

theorem ObjM.look {h : Heap} {x dx C : Addr} {mA : Str → Option Value} (I : ObjM h x dx C mA) : ∃ od, PySem.W.InstAt h x (PySem.W.instObj C dx) C (some od) ∧ ∀ name, PySem.W.lookIn name od = some (mA name) :=
  let ⟨od, ho, hl⟩ := lookIn_ns I.ns
  ⟨od, ⟨I.obj, rfl, rfl, ho⟩, hl⟩

section
variable {prog : Program} {w : World} {A : Around} {E : Value → Shared → Prop} {s : Shared} {K : PySem.W.Frag} {x dx C f : Addr} {mA : Str → Option Value} {name : Str} {v : Value}





end

/-! ### the attributes as a list of pairs -/

theorem RelO.some_of {v : V} {o : Option Value} (r : RelO (some v) o) : ∃ u, o = some u ∧ RelV v u := by
  cases o with
  | none => exact (show False from r).elim
  | some u => exact ⟨u, rfl, r⟩

section
variable {P : Program} {w : World} {H H' : Hp} {h h' : Heap} {a C dx : Addr} {fs fs' : List (Str × V)}
theorem ins_get (hok : HOk P w H h) (e : H a = some (.ins C dx fs)) : ∃ mA, ObjM h a dx C mA ∧ (∀ f, RelO (fs.lookup f) (mA f)) ∧ PySem.Within mA (fs.map (·.1)) ∧ fs.length ≤ 1000 ∧ H dx = some (.own a) := by
  obtain ⟨d, z, ne, ob, mA, n, r, q⟩ := (show ObjOk P w H h a (.ins C dx fs) from hok a _ e)
  exact ⟨mA, ⟨ob, n, ne⟩, r, q, z, d⟩
end

/-! ### what of the text a class must have -/
structure Cls (K : PySem.W.Frag) (C : Addr) : Prop where
  pg : PySem.W.plainGet K C Str.empty = true
  hd : PySem.W.hasDictIn K C = true
  po : PySem.W.plainOver K C = true
  sa : PySem.W.findIn K (.ref C) "__setattr__" = some (some (.builtin "object.__setattr__"))
theorem Cls.get {K : PySem.W.Frag} {C : Addr} (c : Cls K C) (f : Str) : PySem.W.plainGet K C f = true := c.pg

section
variable {X : Cx} {pins : List (Addr × Obj)} {σ : St} {H : Hp} {s : Shared} {a C dx : Addr} {fs : List (Str × V)} {f : Str} {v : V} {A : Around} {E : Value → Shared → Prop}






end

/-! ### readings and rules -/

section
variable {X : Cx} {o e value : Expr} {f : Str} {pos pos' tpos : Pos} {ta tv : TE}

end

/-! ### isinstance -/
section
variable {X : Cx} {pins : List (Addr × Obj)} {σ : St} {H : Hp} {s : Shared} {A : Around} {E : Value → Shared → Prop} {Q : Value → Shared → Prop} {c : Value} {b : Bool}
/-- the type of a value, as the fragment's deciders take it; for an instance its class -/
inductive TyOf (K : PySem.W.Frag) (H : Hp) : V → Value → Prop where
  | non : TyOf K H .non (.type "NoneType")
  | bl (x : Bool) : TyOf K H (.bl x) (.type "bool")
  | int (i : Int) : TyOf K H (.int i) (.type "int")
  | str (x : Str) : TyOf K H (.str x) (.type "str")
  | flt (x : UInt64) : TyOf K H (.flt x) (.type "float")
  | lst {a : Addr} {xs : List V} (e : H a = some (.lst xs)) : TyOf K H (.ref a) (.type "list")
  | frz {a : Addr} {o : Obj} {xs : List V} (e : H a = some (.frz o (.lst xs))) : TyOf K H (.ref a) (.type "list")
  | tup {a : Addr} {xs : List V} (e : H a = some (.tup xs)) : TyOf K H (.ref a) (.type "tuple")
  | dK {a : Addr} {kvs : List (Key × V)} (e : H a = some (.dK kvs)) : TyOf K H (.ref a) (.type "dict")
  | dT {a : Addr} {kvs : List (List Key × V)} (e : H a = some (.dT kvs)) : TyOf K H (.ref a) (.type "dict")
  | ins {a C dx : Addr} {fs : List (Str × V)} (e : H a = some (.ins C dx fs)) (cl : Cls K C) (ha : PySem.W.findIn K (.ref C) "__class__" = some (some (.builtin "object.__class__")))
      (hn : PySem.W.specialIn K (.builtin "object.__class__") "__get__" = some (some (.builtin "getset_descriptor.__get__"))) (htk : PySem.W.takesIn K (.builtin "object.__class__") = some true)
      (hm : PySem.W.mroIn K C (.type "object") = some true) : TyOf K H (.ref a) (.ref C)
/-- isinstance(x, c) for one class c, a built-in or an own one: kitOne's answer -/
theorem isinst_ok {x : V} {u t : Value} (I : Inv X pins σ H s) (rx : RelV x u) (ty : TyOf X.K H x t) (e : PySem.W.kitOne X.K t c = some b) (h : ∀ tk, Q (.bool b) { s with toks := tk }) :
    wpAny (model X.prog X.w) A (call (.builtin "isinstance") [u, c]) Q E s := by
  cases ty with
  | non => cases (show u = Value.none from rx); exact PySem.W.kia_one PySem.W.kitx_none I.kIn True.intro e (fun z => nomatch z) h
  | bl y => cases (show u = Value.bool y from rx); exact PySem.W.kia_one PySem.W.kitx_bool I.kIn True.intro e (fun z => nomatch z) h
  | int i => obtain ⟨t, q⟩ := (show ∃ t, u = Value.int i t from rx); cases q; exact PySem.W.kia_one PySem.W.kitx_int I.kIn True.intro e (fun z => nomatch z) h
  | str y => obtain ⟨t, q⟩ := (show ∃ t, u = Value.str y t from rx); cases q; exact PySem.W.kia_one PySem.W.kitx_str I.kIn True.intro e (fun z => nomatch z) h
  | flt y => obtain ⟨t, q⟩ := (show ∃ t, u = Value.float y t from rx); cases q; exact PySem.W.kia_one PySem.W.kitx_float I.kIn True.intro e (fun z => nomatch z) h
  | @lst a xs ea =>
    cases (show u = Value.ref a from rx)
    obtain ⟨_, _, n, _, h1⟩ := (show ObjOk X.prog X.w H s.heap a (.lst xs) from I.hok a _ ea)
    exact PySem.W.kia_one PySem.W.kitx_list I.kIn ⟨_, h1, rfl⟩ e (fun z => nomatch z) h
  | @frz a ob xs ea =>
    cases (show u = Value.ref a from rx)
    obtain ⟨_, _, _, n, _, h1⟩ := (show ObjOk X.prog X.w H s.heap a (.frz ob (.lst xs)) from I.hok a _ ea)
    exact PySem.W.kia_one PySem.W.kitx_list I.kIn ⟨_, h1, rfl⟩ e (fun z => nomatch z) h
  | @tup a xs ea =>
    cases (show u = Value.ref a from rx)
    obtain ⟨_, _, _, p⟩ := (show ObjOk X.prog X.w H s.heap a (.tup xs) from I.hok a _ ea)
    obtain ⟨o, h1, h2, _⟩ := p
    exact PySem.W.kia_one PySem.W.kitx_tuple I.kIn ⟨o, h1, h2⟩ e (fun z => nomatch z) h
  | @dK a kvs ea =>
    cases (show u = Value.ref a from rx)
    obtain ⟨_, _, vs, _, p⟩ := (show ObjOk X.prog X.w H s.heap a (.dK kvs) from I.hok a _ ea)
    obtain ⟨o, es, ep, h1, h2, _⟩ := p
    exact PySem.W.kia_one PySem.W.kitx_dict I.kIn ⟨o, h1, h2.1⟩ e (fun z => nomatch z) h
  | @dT a kvs ea =>
    cases (show u = Value.ref a from rx)
    obtain ⟨_, _, xs, _, o, es, ep, h1, h2, _⟩ := (show ObjOk X.prog X.w H s.heap a (.dT kvs) from I.hok a _ ea)
    exact PySem.W.kia_one PySem.W.kitx_dict I.kIn ⟨o, h1, h2.1⟩ e (fun z => nomatch z) h
  | @ins a C dx fs ea cl ha hn htk hm =>
    cases (show u = Value.ref a from rx)
    obtain ⟨mA, O, _⟩ := ins_get I.hok ea
    obtain ⟨od, J, _⟩ := O.look
    exact PySem.W.kia_one (PySem.W.kitx_own (cl.get _) cl.hd ha hn htk hm) I.kIn J e (fun z => nomatch z) h
end
end L2

namespace L2
open PySem PySem.Spec PyProof.Rows

/-! ### room -/
structure Room (k : Nat) (A : Around) : Prop where
  hd : A.handled = none
  dp : A.depth + 3 * k + 5 < recursionLimit
  un : A.units + 16 * k + 200 < cLine
theorem Room.mono {j k : Nat} {A : Around} (r : Room k A) (h : j ≤ k) : Room j A := ⟨r.hd, by have := r.dp; omega, by have := r.un; omega⟩
theorem Room.deeper {k : Nat} {A : Around} (r : Room (k + 1) A) (env : Env) : Room k (A.deeper env) :=
  ⟨r.hd, by have := r.dp; show A.depth + 1 + 3 * k + 5 < _; omega, by have := r.un; show A.units + 3 + 16 * k + 200 < _; omega⟩
theorem Room.depth {k : Nat} {A : Around} (r : Room k A) : A.depth < recursionLimit := by have := r.dp; omega
theorem Room.units {k : Nat} {A : Around} (r : Room k A) : A.units + 64 < cLine := by have := r.un; omega

/-! ### argument lists and displays -/
noncomputable def tNil : TA := fun _ H Q => Q [] H
noncomputable def tCons (ta : TE) (tr : TA) : TA := fun σ H Q => ta σ H fun x H1 => tr σ H1 fun xs H2 => Q (x :: xs) H2
section
variable {X : Cx} {e : Expr} {es : List Expr} {te : TE} {t : TA} {pos : Pos}
theorem pa_nil : PA X [] tNil := fun _ _ _ _ H Q I h => Calls.spliced_nil ⟨[], H, I, .nil, h⟩
theorem pa_cons (ha : PE X e te) (hr : PA X es t) (hs : starEach (e :: es) X.env = (false, eval e X.env) :: starEach es X.env := by rfl) : PA X (e :: es) (tCons te t) := by
  intro pos pins s σ H Q I h
  rw [hs]
  show wpAny _ _ (spliced ((false, eval e X.env) :: backTo pos (starEach es X.env))) _ _ s
  refine Calls.spliced_cons (thn (ha pins s σ H _ I h) fun u s1 ⟨x, H1, I1, r1, q1⟩ => ?_)
  exact thn (hr pos pins s1 σ H1 _ I1 q1) fun us s2 ⟨xs, H2, I2, r2, q2⟩ => ⟨x :: xs, H2, I2, .cons r1 r2, q2⟩

/-- a tuple, a list of written items -/
noncomputable def tTup (t : TA) : TE := fun σ H Q => t σ H fun xs H1 => xs.length ≤ sizeLine ∧ ∀ p, H1 p = none → Q (.ref p) (upd H1 p (.tup xs))
noncomputable def tLst (t : TA) : TE := fun σ H Q => t σ H fun xs H1 => xs.length ≤ sizeLine ∧ ∀ p, H1 p = none → Q (.ref p) (upd H1 p (.lst xs))
theorem pe_tup {x1} (h : PA X es t) : PE X (.Tuple es x1 pos) (tTup t) := by
  intro pins s σ H Q I hq
  refine wpAny_Tuple_spliced (thn (h pos pins s σ H _ I hq) fun us s1 ⟨xs, H1, I1, r, z, q⟩ => ⟨by rw [← r.length]; exact z, ?_⟩)
  have hf : H1 s1.heap.objs.size = none := I1.hok.fresh (Nat.le_refl _)
  refine ⟨.ref s1.heap.objs.size, upd H1 s1.heap.objs.size (.tup xs), I1.laid (t' := s1.toks) (fun b u e => Heap.get?_push_of_some _ e) (Nat.le_refl _) ?_, rfl, q _ hf⟩
  exact ⟨z, us, r, ⟨_, Heap.get?_push_size _ rfl, rfl, _, rfl⟩⟩
theorem pe_lst (h : PA X es t) : PE X (.List es pos) (tLst t) := by
  intro pins s σ H Q I hq
  refine wpAny_List_spliced (thn (h pos pins s σ H _ I hq) fun us s1 ⟨xs, H1, I1, r, z, q⟩ => ⟨by rw [← r.length]; exact z, ?_⟩)
  have hf : H1 s1.heap.objs.size = none := I1.hok.fresh (Nat.le_refl _)
  refine ⟨.ref s1.heap.objs.size, upd H1 s1.heap.objs.size (.lst xs), I1.laid (t' := s1.toks) (fun b u e => Heap.get?_push_of_some _ e) (Nat.le_refl _) ?_, rfl, q _ hf⟩
  exact ⟨z, us, 0, r, Heap.get?_push_size _ rfl⟩
end

/-! ### what a def promises -/
/-- a def's promise: the bound arguments in the parameters' order, the heap, the wanted end, the wanted exception -/
noncomputable abbrev Sp := List V → Hp → VK → XK → Prop
/-- how an exception lies behind a call (file 08 gives it): the callers' frames, abstract heap and state ahead of the call, the wish, the exception, the state -/
noncomputable abbrev CXT := List Env → Hp → Shared → XK → Value → Shared → Prop

/-- the state at a call -/
structure Env0 (P : Program) (w : World) (K : PySem.W.Frag) (mg : Str → Option Value) (base : Heap) (A : Around) (outer : List Env) (s : Shared) (H : Hp) : Prop where
  frames : A.frames = some outer
  mod : Mod K mg base
  bs : ∀ b o, base.get? b = some o → s.heap.get? b = some o ∧ H b = none
  bsz : base.objs.size ≤ s.heap.objs.size
  funs : s.heap.FunFrames base outer
  frf : ∀ b ∈ frs outer, H b = none
  hok : HOk P w H s.heap
  bare : AllBare s.gens
/-- a call's end -/
noncomputable def CE (outer : List Env) (P : Program) (w : World) (H : Hp) (s : Shared) (Q : VK) (u : Value) (s' : Shared) : Prop :=
  ∃ v H', s'.os = s.os ∧ AllBare s'.gens ∧ Un (frs outer) [] H H' s.heap s'.heap ∧ HOk P w H' s'.heap ∧ RelV v u ∧ Q v H'
noncomputable def CR (CX : CXT) (outer : List Env) (P : Program) (w : World) (H : Hp) (s : Shared) (Q : VK) (E : XK) (r : Result) (s' : Shared) : Prop :=
  match r with
  | .ok (.ret u) => CE outer P w H s Q u s'
  | .ok _ => False
  | .error e => CX outer H s E e s'
structure FnOk (P : Program) (w : World) (K : PySem.W.Frag) (mg : Str → Option Value) (base : Heap) (CX : CXT) (k : Nat) (f : Addr) (fd : FuncData) (ps : List Str) (sp : Sp) : Prop where
  len : ∀ vs H Q E, sp vs H Q E → vs.length = ps.length
  run : ∀ (A : Around) (outer : List Env) (s : Shared) (H : Hp) (args : Args) (us : List Value) (vs : List V) (Q : VK) (E : XK), Room k A → Env0 P w K mg base A outer s H → BindsTo s fd args (ps.zip us) → Vals vs us → sp vs H Q E →
    codeAny (model P w) A (.call (.ref f) args) (CR CX outer P w H s Q E) s
theorem FnOk.mono {P : Program} {w : World} {K : PySem.W.Frag} {mg : Str → Option Value} {base : Heap} {CX : CXT} {j k : Nat} {f : Addr} {fd : FuncData} {ps : List Str} {sp : Sp} (F : FnOk P w K mg base CX j f fd ps sp) (h : j ≤ k) :
    FnOk P w K mg base CX k f fd ps sp := ⟨F.len, fun A outer s H args us vs Q E hr => F.run A outer s H args us vs Q E (hr.mono h)⟩


section
variable {X : Cx} {pins : List (Addr × Obj)} {σ : St} {H : Hp} {s s' : Shared}
/-- from a body: what a callee wants -/
theorem Inv.env0 (I : Inv X pins σ H s) : Env0 X.prog X.w X.K X.mg X.base X.A X.stack s H :=
  ⟨I.ok.frames, I.ok.mod, I.bs, Nat.le_trans I.ok.bsz I.sz, I.stack, I.stkFree, I.hok, I.bare⟩
/-- behind a call -/
theorem Inv.after {Q : VK} {u : Value} (I : Inv X pins σ H s) (h : CE X.stack X.prog X.w H s Q u s') : EP X pins σ Q u s' := by
  obtain ⟨v, H', os, bare, un, hok, r, q⟩ := h
  obtain ⟨hh, g, d, t, os'⟩ := s'
  obtain rfl : os' = s.os := os
  exact ⟨v, H', I.call (h' := hh) (g' := g) (d' := d) (t' := t) (ch := []) un hok bare (fun b z => absurd z (by simp)), r, q⟩
end

/-! ### calls -/
/-- f(..): the written arguments, then the defaults dvs; E: what is wanted of an exception -/
noncomputable def tCall (sp : Sp) (dvs : List V) (E : XK) (t : TA) : TE := fun σ H Q => t σ H fun vs H1 => sp (vs ++ dvs) H1 Q E

/-- how the parameters are bound: us the positional arguments, kw the keywords' values by name, ds the defaults that fill up -/
noncomputable def Binds (K : PySem.W.Frag) (fd : FuncData) (ps : List Str) (ds : List Value) : Prop :=
  ∀ (s : Shared) (us : List Value), K.In s.heap → (us ++ ds).length = ps.length → BindsTo s fd ⟨us, []⟩ (ps.zip (us ++ ds))
/-- every parameter is given -/
theorem Binds.all {K : PySem.W.Frag} {fd : FuncData} {ps : List Str} (h : ∀ us : List Value, us.length = ps.length → bindArgs fd ⟨us, []⟩ = pure (ps.zip us)) : Binds K fd ps [] := fun s us _ hl => by
  rw [List.append_nil] at hl ⊢
  exact .of_eq (h us hl)

/-- an exception of a callee reaches what this body wants of exceptions -/
noncomputable def Passes (CX : CXT) (X : Cx) (E : XK) : Prop := ∀ (pins : List (Addr × Obj)) (σ : St) (H : Hp) (s : Shared) (e : Value) (s' : Shared), Inv X pins σ H s → CX X.stack H s E e s' → X.xe e s'

section
variable {X : Cx} {CX : CXT} {k : Nat} {f C : Addr} {fd : FuncData} {ps : List Str} {sp : Sp} {dvs : List V} {ds : List Value} {E : XK} {x m : Str} {p pos apos : Pos} {e o : Expr} {es : List Expr} {ta : TE} {t : TA}

/-- the callee runs -/
theorem run_fn {pins : List (Addr × Obj)} {σ : St} {H : Hp} {s : Shared} {Q : VK} {us : List Value} {vs : List V} (F : FnOk X.prog X.w X.K X.mg X.base CX k f fd ps sp) (hr : Room k X.A) (hb : Binds X.K fd ps ds) (hd : Vals dvs ds) (hx : Passes CX X E)
    (I : Inv X pins σ H s) (r : Vals vs us) (h : sp (vs ++ dvs) H Q E) : wpAny (model X.prog X.w) X.A (call (.ref f) us) (EP X pins σ Q) X.xe s := by
  have r2 : Vals (vs ++ dvs) (us ++ ds) := r.append hd
  have hl : (us ++ ds).length = ps.length := by rw [← r2.length]; exact F.len _ _ _ _ h
  refine wpAny_call (codeAny_mono (F.run X.A X.stack s H ⟨us, []⟩ (us ++ ds) (vs ++ dvs) Q E hr I.env0 (hb s us I.kIn hl) r2 h) fun r s' hq => ?_)
  cases r with
  | error e => exact hx pins σ H s e s' I hq
  | ok fl =>
    cases fl with
    | ret u => exact I.after hq
    | next => exact False.elim hq
    | brk => exact False.elim hq
    | cont => exact False.elim hq

theorem pe_call (F : FnOk X.prog X.w X.K X.mg X.base CX k f fd ps sp) (hr : Room k X.A) (hg : Gl X x) (hm : X.mg x = some (.ref f)) (hk : PySem.W.keepIn X.K (.ref f) = true) (hb : Binds X.K fd ps ds) (hd : Vals dvs ds) (hx : Passes CX X E)
    (ha : PA X (e :: es) t) (hdb : (x == ("__debug__" : Str)) = false := by decide) (he : starEach (e :: es) X.env = (false, eval e X.env) :: starEach es X.env := by rfl) (hpl : (backTo pos (starEach es X.env)).any (·.1) = false := by rfl) :
    PE X (.Call (.Name x p) (e :: es) [] pos) (tCall sp dvs E t) := by
  intro pins s σ H Q I h
  refine wpAny_Call_Name_kw (ld_glob I hg hm ?_ hdb)
  refine PySem.W.callWith_K (h₀ := X.base) I.ok.mod.kin hk (thn (ha pos pins s σ H _ I h) fun us s1 ⟨vs, H1, I1, r, q⟩ => ⟨I1.kIn, ?_⟩) he hpl
  exact run_fn F hr hb hd hx I1 r q



end

/-! ### keywords -/
section
variable {X : Cx} {CX : CXT} {k : Nat} {f C : Addr} {fd : FuncData} {ps ks : List Str} {sp : Sp} {E : XK} {x m : Str} {p pos apos kpos : Pos} {e o : Expr} {es : List Expr} {kws : List Keyword} {te ta : TE} {t tk : TA} {nm : Option Str}

variable {g : List Value → List Value → List Value} {gV : List V → List V → List V}
end

/-! ### a def's body keeps its promise -/
/-- names: the parameters first -/
structure FnScope (N P : List Str) (sc : Scope) : Prop where
  kind : sc.kind = .function
  co : sc.isCoroutine = false
  gen : sc.isGenerator = false
  nd : N.Nodup
  pre : N.take P.length = P
  par : ∀ x ∈ P, sc.names.lookup x = some .local ∨ sc.names.lookup x = some .cell
  nofree : ∀ y ∈ sc.names, y.2 ≠ .free

theorem bindL_out {kindOf : Str → Option NameKind} {x : Str} : ∀ {binds : List (Str × Value)} {m : Str → Option Value}, (∀ v, (x, v) ∉ binds) → bindL kindOf binds m x = m x
  | [], _, _ => rfl
  | (n, v) :: r, m, h => by
    unfold bindL
    rw [bindL_out fun w hw => h w (List.mem_cons_of_mem _ hw)]
    split
    · have : x ≠ n := by rintro rfl; exact h v List.mem_cons_self
      simp [this]
    · rfl
theorem bindC_out {kindOf : Str → Option NameKind} {x : Str} : ∀ {binds : List (Str × Value)} {m : Str → Option Value}, (∀ v, (x, v) ∉ binds) → bindC kindOf binds m x = m x
  | [], _, _ => rfl
  | (n, v) :: r, m, h => by
    unfold bindC
    rw [bindC_out fun w hw => h w (List.mem_cons_of_mem _ hw)]
    split
    · rfl
    · have : x ≠ n := by rintro rfl; exact h v List.mem_cons_self
      simp [this]
theorem bindL_get {kindOf : Str → Option NameKind} {x : Str} {v : Value} : ∀ {P : List Str} {vs : List Value} {i : Nat} {m : Str → Option Value}, P.Nodup → P[i]? = some x → vs[i]? = some v → kindOf x = some .local →
    bindL kindOf (P.zip vs) m x = some v
  | [], _, _, _, _, h, _, _ => by simp at h
  | _ :: _, [], _, _, _, _, h, _ => by simp at h
  | p :: P, w :: vs, 0, m, nd, h1, h2, hk => by
    simp at h1 h2; subst h1; subst h2
    show bindL kindOf ((p, w) :: P.zip vs) m p = _
    unfold bindL
    rw [bindL_out fun v hv => (List.nodup_cons.mp nd).1 (List.of_mem_zip hv).1, if_pos hk]
    simp
  | p :: P, w :: vs, i + 1, m, nd, h1, h2, hk => by
    show bindL kindOf ((p, w) :: P.zip vs) m x = _
    unfold bindL
    exact bindL_get (i := i) (List.nodup_cons.mp nd).2 (by simpa using h1) (by simpa using h2) hk
theorem bindC_get {kindOf : Str → Option NameKind} {x : Str} {v : Value} : ∀ {P : List Str} {vs : List Value} {i : Nat} {m : Str → Option Value}, P.Nodup → P[i]? = some x → vs[i]? = some v → kindOf x ≠ some .local →
    bindC kindOf (P.zip vs) m x = some v
  | [], _, _, _, _, h, _, _ => by simp at h
  | _ :: _, [], _, _, _, _, h, _ => by simp at h
  | p :: P, w :: vs, 0, m, nd, h1, h2, hk => by
    simp at h1 h2; subst h1; subst h2
    show bindC kindOf ((p, w) :: P.zip vs) m p = _
    unfold bindC
    rw [bindC_out fun v hv => (List.nodup_cons.mp nd).1 (List.of_mem_zip hv).1, if_neg hk]
    simp
  | p :: P, w :: vs, i + 1, m, nd, h1, h2, hk => by
    show bindC kindOf ((p, w) :: P.zip vs) m x = _
    unfold bindC
    exact bindC_get (i := i) (List.nodup_cons.mp nd).2 (by simpa using h1) (by simpa using h2) hk

/-- the names' values at the entry -/
noncomputable def start (N : List Str) (vs : List V) : St := vs.map some ++ List.replicate (N.length - vs.length) none

/-- the context of a def's body, at its entry; an exception leaves the frame, then lies as CX says -/
noncomputable def cxOf (CX : CXT) (P : Program) (w : World) (K : PySem.W.Frag) (mg : Str → Option Value) (base : Heap) (N : List Str) (qual : Str) (scope : Scope) (f : Addr) (cd : Value) (A : Around) (outer : List Env) (s : Shared) (H : Hp) (E : XK) : Cx where
  prog := P
  w := w
  K := K
  mg := mg
  base := base
  A := A.deeper (envOfC qual scope s.heap.objs.size f cd)
  N := N
  s₀ := s
  H₀ := H
  env := envOfC qual scope s.heap.objs.size f cd
  outer := outer
  stack := envOfC qual scope s.heap.objs.size f cd :: outer
  ex := []
  calm := true
  fn := fun _ => true
  pn := []
  xe := fun e s' => wpAny (model P w) (A.deeper (envOfC qual scope s.heap.objs.size f cd)) (leaving (envOfC qual scope s.heap.objs.size f cd) e) (fun _ s'' => CX outer H s E e s'') (fun e' s'' => CX outer H s E e' s'') s'

theorem cell_has {sc : Scope} {n : Nat} {x : Str} (h : sc.names.lookup x = some .cell) : ∃ c, (cellsFrom n sc.names []).lookup x = some c := by
  have q := PySem.W.cellsFrom_some sc.names n [] (.inl h)
  exact Option.isSome_iff_exists.mp q

theorem inv_start {CX : CXT} {P : Program} {w : World} {K : PySem.W.Frag} {mg : Str → Option Value} {base : Heap} {N ps : List Str} {qual : Str} {scope : Scope} {f : Addr} {cd : Value} {A : Around} {outer : List Env} {s s1 : Shared} {H : Hp} {E : XK} {us : List Value} {vs : List V}
    (S : FnScope N ps scope) (hd : A.handled = none) (e0 : Env0 P w K mg base A outer s H) (hl : vs.length = ps.length) (r : Vals vs us)
    (x : InCallC s s.heap.objs.size (bindL (envOfC qual scope s.heap.objs.size f cd).kindOf (ps.zip us) fun _ => none) (cellsFrom (s.heap.objs.size + 1) scope.names []) (bindC (envOfC qual scope s.heap.objs.size f cd).kindOf (ps.zip us) fun _ => none) s1) :
    Inv (cxOf CX P w K mg base N qual scope f cd A outer s H E) [] (start N vs) H s1 := by
  have hpl : ps.length ≤ N.length := by have := congrArg List.length S.pre; rw [List.length_take] at this; omega
  obtain ⟨h1, tk, rfl, hk⟩ := x.done
  have noA : ∀ b : Addr, b ∉ (cxOf CX P w K mg base N qual scope f cd A outer s H E).ex := fun b z => absurd (show b ∈ ([] : List Addr) from z) (by simp)
  refine ⟨⟨e0.mod, S.kind, rfl, rfl, Nat.le_refl _, fun y z c h1 h2 => ?_, fun y hy => ?_, fun y c _ h => ?_, fun _ => hd, Around.frames_deeper e0.frames, .inr ⟨rfl, rfl⟩, fun b z => absurd z (noA b), e0.bs, e0.bsz, fun b _ _ => noA b, fun b z => absurd z (noA b), e0.funs, e0.frf⟩,
    rfl, e0.bare, Un.kept hk, ⟨_, x.toInCall.ns, fun i y v h1 h2 h3 => ?_⟩, fun y c h => ⟨_, x.cell y c h⟩, e0.hok.fresh (Nat.le_refl _), fun y c h => ?_, fun p hp => absurd (show p ∈ ([] : List (Addr × Obj)) from hp) (by simp), e0.hok.kept hk, ?_⟩
  · exact name_of_addr x.apart (PySem.mem_of_lookup h1) (PySem.mem_of_lookup h2)
  · have hy : scope.names.lookup y = some .cell ∨ scope.names.lookup y = some .free := hy
    rcases hy with hy | hy
    · exact cell_has hy
    · exact absurd rfl (S.nofree _ (PySem.mem_of_lookup hy))
  · exact Nat.le_of_lt (x.above y c (PySem.mem_of_lookup h))
  · have hi : i < vs.length := by
      unfold start at h2
      by_cases hi : i < vs.length
      · exact hi
      · rw [List.getElem?_append_right (by simpa using hi)] at h2
        rw [List.getElem?_replicate] at h2
        split at h2 <;> cases h2
    have ha : vs[i]? = some v := by
      unfold start at h2
      rw [List.getElem?_append_left (by simpa using hi), List.getElem?_map] at h2
      cases e : vs[i]? with
      | none => rw [e] at h2; cases h2
      | some a => rw [e] at h2; cases h2; rfl
    obtain ⟨u, hu, rv⟩ := r.get ha
    have hp : ps[i]? = some y := by
      rw [← S.pre, List.getElem?_take_of_lt (by omega)]; exact h1
    have ndP : ps.Nodup := by rw [← S.pre]; exact S.nd.sublist (List.take_sublist _ _)
    refine ⟨u, rv, ?_⟩
    rcases S.par y (List.mem_of_getElem? hp) with k | k
    · exact .inl ⟨k, bindL_get ndP hp hu k⟩
    · obtain ⟨c, e⟩ := cell_has (n := s.heap.objs.size + 1) k
      refine .inr ⟨.inl k, c, e, ?_⟩
      have q := x.cell y c e
      rw [bindC_get ndP hp hu (by show scope.names.lookup y ≠ _; rw [k]; decide)] at q
      exact q
  · exact e0.hok.fresh (Nat.le_of_lt (x.above y c (PySem.mem_of_lookup h)))
  · unfold start
    show _ = N.length
    rw [List.length_append, List.length_map, List.length_replicate]
    omega

/-- THE RULE: a def (or a method) of the text, by its body. The body's reading t is chosen for each entry; it is run at the parameters' values -/
theorem fn_of {CX : CXT} {P : Program} {w : World} {K : PySem.W.Frag} {mg : Str → Option Value} {base : Heap} {k : Nat} {f : Addr} {name qual : Str} {params : Arguments} {body : List Stmt} {scope : Scope} {dV kV doc pm cdv ct oc : Value} {an od : Option Addr}
    {osl : Array (Option Value)} {N ps : List Str} {sp : Sp} (lk : K.lookup f = some ⟨oc, od, .func (PySem.W.fnOf name qual params body scope dV kV doc pm an cdv ct), osl⟩) (hcd : PySem.W.codeIn K cdv qual = true) (S : FnScope N ps scope)
    (len : ∀ vs H Q E, sp vs H Q E → vs.length = ps.length)
    (hbody : ∀ (A : Around) (outer : List Env) (s : Shared) (H : Hp) (vs : List V) (Q : VK) (E : XK), Room k (A.deeper (envOfC qual scope s.heap.objs.size f cdv)) → sp vs H Q E →
      ∃ t, PSs (cxOf CX P w K mg base N qual scope f cdv A outer s H E) body t ∧ t { nx := fun _ H' => Q .non H', rt := Q } (start N vs) H) :
    FnOk P w K mg base CX (k + 1) f (PySem.W.fnOf name qual params body scope dV kV doc pm an cdv ct) ps sp := by
  refine ⟨len, fun A outer s H args us vs Q E hr e0 hb r hsp => ?_⟩
  have hl := len _ _ _ _ hsp
  have KX : K.In s.heap := e0.mod.kin.keeps fun b o e => (e0.bs b o e).1
  have lim : s.heap.NoLimit := e0.mod.nolimit.keeps fun b o e => (e0.bs b o e).1
  have hkind : ∀ y ∈ ps.zip us, scope.names.lookup y.1 = some .local ∨ (scope.names.lookup y.1 = some .cell ∧ ((cellsFrom (s.heap.objs.size + 1) scope.names []).lookup y.1).isSome = true) := fun ⟨n, v⟩ hy => by
    rcases S.par n (List.of_mem_zip hy).1 with q | q
    · exact .inl q
    · exact .inr ⟨q, PySem.W.cellsFrom_some _ _ _ (.inl q)⟩
  refine codeAny_call_function hr.depth (KX _ _ lk) rfl S.co S.gen rfl (PySem.W.codeRec_of KX hcd) (hb _ _ _ _ ?_)
  refine wpAny_newFunctionEnv_cells S.kind hkind fun env he s1 x => ?_
  subst he
  refine ⟨lim.keeps x.toInCall.keep, codeAny_func ?_⟩
  obtain ⟨t, ht, hq⟩ := hbody A outer s H vs Q E (hr.deeper _) hsp
  have I : Inv (cxOf CX P w K mg base N qual scope f cdv A outer s H E) [] (start N vs) H s1 := inv_start S hr.hd e0 hl r x
  refine wpAny_mono (ht [] s1 (start N vs) H _ I hq) (fun fl s' hs => ?_) fun e s' hs => hs
  have fin : ∀ {σ' : St} {H' : Hp} {v : V} {u : Value}, Inv (cxOf CX P w K mg base N qual scope f cdv A outer s H E) [] σ' H' s' → RelV v u → Q v H' → CE outer P w H s Q u s' :=
    fun {σ' H' v u} J rv q => ⟨v, H', J.os, J.bare, J.base, J.hok, rv, q⟩
  cases fl with
  | ret u =>
    obtain ⟨v, σ', H', J, rv, q⟩ := hs
    exact fin J rv q
  | next =>
    obtain ⟨σ', H', J, q⟩ := hs
    exact fin (v := V.non) (u := Value.none) J rfl q
  | brk =>
    obtain ⟨_, _, _, q⟩ := hs
    exact False.elim q
  | cont =>
    obtain ⟨_, _, _, q⟩ := hs
    exact False.elim q
end L2

namespace L2
open PySem PySem.Spec PyProof.Rows
section
variable {X : Cx} {x : Str} {p pos : Pos} {e : Expr} {es : List Expr} {t : TA} {id T : String} {r : List V → Hp → VK → Prop}

noncomputable def tCB (r : List V → Hp → VK → Prop) (t : TA) : TE := fun σ H Q => t σ H fun vs H1 => r vs H1 Q
/-- f(e, ..), f a built-in function -/
theorem pe_callB (hc : CallR X (.builtin id) r) (hg : Gl X x) (hm : X.mg x = none) (hv : bootBuiltins x = some (.builtin id)) (ha : PA X (e :: es) t) (hn : x ≠ "__name__" := by decide) (hdb : (x == ("__debug__" : Str)) = false := by decide)
    (he : starEach (e :: es) X.env = (false, eval e X.env) :: starEach es X.env := by rfl) (hpl : (backTo pos (starEach es X.env)).any (·.1) = false := by rfl) : PE X (.Call (.Name x p) (e :: es) [] pos) (tCB r t) := by
  intro pins s σ H Q I h
  refine wpAny_Call_Name_kw (ld_blt I hg hm hv ?_ hn hdb)
  exact PyProof.Rows.callWith_builtin1 (thn (ha pos pins s σ H _ I h) fun us s1 ⟨vs, H1, I1, r1, q1⟩ => hc pins s1 σ H1 vs us Q I1 r1 q1) he hpl
/-- T(e, ..), T a built-in type -/
theorem pe_callTy (hc : CallR X (.type T) r) (hg : Gl X x) (hm : X.mg x = none) (hv : bootBuiltins x = some (.type T)) (ha : PA X (e :: es) t) (hn : x ≠ "__name__" := by decide) (hdb : (x == ("__debug__" : Str)) = false := by decide)
    (he : starEach (e :: es) X.env = (false, eval e X.env) :: starEach es X.env := by rfl) (hpl : (backTo pos (starEach es X.env)).any (·.1) = false := by rfl) : PE X (.Call (.Name x p) (e :: es) [] pos) (tCB r t) := by
  intro pins s σ H Q I h
  refine wpAny_Call_Name_kw (ld_blt I hg hm hv ?_ hn hdb)
  exact PyProof.Rows.callWith_type1 (thn (ha pos pins s σ H _ I h) fun us s1 ⟨vs, H1, I1, r1, q1⟩ => hc pins s1 σ H1 vs us Q I1 r1 q1) he hpl
end
end L2

namespace HT
open PySem PyProof.Rows



section
open PySem.SeqAt
open PySem.AutoSeq1 (wpAny_loadPart')
open PySem.MeetsSeq PySem.MeetsSeq2 PySem.MeetsSeq3

end

section
variable {prog : Program} {w : World} {A : Around} {E : Value → Shared → Prop} {s : Shared}



/-! ### t[a:b], not the whole -/
/-- a slice's bound as a place among n (d where it is left out) -/
noncomputable def sIx (n d : Nat) : Option Int → Nat
  | none => d
  | some v => if v < 0 then (v + (n : Int)).toNat else min v.toNat n
theorem sIx_nat (n d k : Nat) : sIx n d (some (k : Int)) = min k n := by
  show (if (k : Int) < 0 then ((k : Int) + (n : Int)).toNat else min (k : Int).toNat n) = min k n
  rw [if_neg (by omega), Int.toNat_natCast]
theorem sIx_le (n d : Nat) (hd : d ≤ n) (o : Option Int) : sIx n d o ≤ n := by
  cases o with
  | none => exact hd
  | some v =>
    show (if v < 0 then (v + (n : Int)).toNat else min v.toNat n) ≤ n
    by_cases hv : v < 0
    · rw [if_pos hv]; omega
    · rw [if_neg hv]; exact Nat.min_le_right _ _
theorem clip_eq (v : Int) (n d : Nat) : (if v < 0 then max (v + (n : Int)) 0 else min v (n : Int)) = ((sIx n d (some v) : Nat) : Int) := by
  show (if v < 0 then max (v + (n : Int)) 0 else min v (n : Int)) = (((if v < 0 then (v + (n : Int)).toNat else min v.toNat n) : Nat) : Int)
  by_cases hv : v < 0
  · simp only [if_pos hv]; omega
  · simp only [if_neg hv]; omega
theorem adjust_gen (lo hi : Option Int) (n : Nat) : Builtin.Slice.sliceAdjust lo hi 1 (n : Int) = (((sIx n 0 lo : Nat) : Int), ((sIx n n hi : Nat) : Int)) := by
  have h1 : ¬ ((1 : Int) < 0) := by omega
  unfold Builtin.Slice.sliceAdjust
  simp only [h1, if_false]
  refine Prod.ext ?_ ?_
  · cases lo with
    | none => rfl
    | some v => exact clip_eq v n 0
  · cases hi with
    | none => rfl
    | some v => exact clip_eq v n n
theorem places_gen (i j : Nat) : Builtin.Slice.slicePlaces (i : Int) (j : Int) 1 = j - i := by
  unfold Builtin.Slice.slicePlaces
  have h1 : (1 : Int) > 0 := by omega
  simp only [h1, if_true, Int.ediv_one]
  split <;> omega
theorem slicePart_ {v : Value} {o : Option Int} {Q : Option Int → Shared → Prop} (p : IsPart v o) (h : Q o s) : wpAny (model prog w) A (Builtin.Slice.slicePartIndex v) Q E s := by
  cases p with
  | none => exact slicePart_none h
  | int i t => exact slicePart_int h
theorem sliceApplied_gen {sl : Addr} {vl vu : Value} {lo hi : Option Int} {n : Nat} {Q : Int × Int × Nat → Shared → Prop} (hs : s.heap.IsSliceOf sl vl vu .none) (pl : IsPart vl lo) (pu : IsPart vu hi)
    (h : Q (((sIx n 0 lo : Nat) : Int), 1, sIx n n hi - sIx n 0 lo) s) : wpAny (model prog w) A (Builtin.Slice.sliceApplied (.ref sl) (pure (n : Int))) Q E s := by
  obtain ⟨os, hos, hcs, hds⟩ := id hs
  unfold Builtin.Slice.sliceApplied Builtin.Slice.sliceFields
  refine wpAny_bind (wpAny_bind (wpAny_field hos hds (x := vl) rfl (wpAny_bind (wpAny_field hos hds (x := vu) rfl (wpAny_bind (wpAny_field hos hds (x := .none) rfl (wpAny_pure ?_)))))))
  refine wpAny_bind (slicePart_none ?_)
  show wpAny _ _ (if ((1 : Int) == 0) = true then _ else _) _ _ s
  rw [if_neg (by decide)]
  refine wpAny_bind (slicePart_ pl (wpAny_bind (slicePart_ pu (wpAny_bind (wpAny_pure ?_)))))
  show wpAny _ _ (match Builtin.Slice.sliceAdjust lo hi 1 (n : Int) with | (lo, hi) => pure (lo, (1 : Int), Builtin.Slice.slicePlaces lo hi 1)) _ _ s
  rw [adjust_gen lo hi n]
  show wpAny _ _ (pure (((sIx n 0 lo : Nat) : Int), (1 : Int), Builtin.Slice.slicePlaces ((sIx n 0 lo : Nat) : Int) ((sIx n n hi : Nat) : Int) 1)) _ _ s
  rw [places_gen]
  exact wpAny_pure h
theorem pick_gen (xs : Array Value) (i k : Nat) : ((List.range k).filterMap fun (m : Nat) => xs[((i : Int) + (m : Int) * 1).toNat]?).toArray = ((xs.toList.drop i).take k).toArray := by
  have e : (fun (m : Nat) => xs[((i : Int) + (m : Int) * 1).toNat]?) = fun m => xs[i + m]? := by
    funext m
    have : ((i : Int) + (m : Int) * 1).toNat = i + m := by omega
    rw [this]
  rw [e]
  have := pick_run xs i k
  rw [List.filterMap_map] at this
  have e2 : ((fun x => xs[x]?) ∘ fun x => i + x) = fun m => xs[i + m]? := rfl
  rw [e2] at this
  rw [this]

theorem getItem_tuple_cut {t sl : Addr} {items : Array Value} {vl vu : Value} {lo hi : Option Int} {Q : Value → Shared → Prop} (ht : IsTup s.heap t items) (hs : s.heap.IsSliceOf sl vl vu .none) (pl : IsPart vl lo) (pu : IsPart vu hi)
    (hw : ¬ (sIx items.size 0 lo = 0 ∧ sIx items.size items.size hi = items.size))
    (h : Q (.ref s.heap.objs.size) { s with heap := s.heap.push { cls := .type "tuple", data := .seq ((items.toList.drop (sIx items.size 0 lo)).take (sIx items.size items.size hi - sIx items.size 0 lo)).toArray } })
    (hsz : items.size ≤ sizeLine) : wpAny (model prog w) A (getItem (.ref t) (.ref sl)) Q E s := by
  have htake : sizeOk (.seq ((items.toList.drop (sIx items.size 0 lo)).take (sIx items.size items.size hi - sIx items.size 0 lo)).toArray) := by
    show ((items.toList.drop (sIx items.size 0 lo)).take (sIx items.size items.size hi - sIx items.size 0 lo)).toArray.size ≤ sizeLine
    rw [List.size_toArray, List.length_take, List.length_drop, Array.length_toList]
    omega
  have hj : sIx items.size items.size hi ≤ items.size := sIx_le _ _ (Nat.le_refl _) hi
  obtain ⟨os, hos, hcs, hds⟩ := id hs
  have hTs : s.TypeIs (.ref sl) "slice" := ⟨os, hos, hcs⟩
  unfold getItem
  try with_reducible refine wpAny_holding ?_
  first | refine wpAny_bind (wpAny_pure ?_) | skip
  refine wpAny_bind (wpAny_sequenceKey ht.typeIs (by decide) ?_)
  refine wpAny_bind (wpAny_callSpecial?_slot (name := Str.ofString "__getitem__") ht.typeIs PyProof.Rows.slot_tuple_getitem
    (wpAny_call_entry PyProof.Rows.slot_tuple_getitem ht.typeIs entry_tuple_getitem ?_ (args_tuple_getitem _ _)))
  show wpAny _ _ (Builtin.Tuple.tupleItemsOf (.ref t) >>= _) _ _ s
  refine wpAny_bind (tupleItemsOf_ ht ?_)
  refine wpAny_bind (wpAny_typeOf hTs ?_)
  rw [if_pos (by decide)]
  refine wpAny_bind (sliceApplied_gen hs pl pu ?_)
  have hno : ¬ ((((sIx items.size 0 lo : Nat) : Int) == 0 && (1 : Int) == 1 && (sIx items.size items.size hi - sIx items.size 0 lo) == items.size) = true) := by
    intro q
    rw [Bool.and_eq_true, Bool.and_eq_true] at q
    have q1 : ((sIx items.size 0 lo : Nat) : Int) = 0 := eq_of_beq q.1.1
    have q2 : sIx items.size items.size hi - sIx items.size 0 lo = items.size := eq_of_beq q.2
    exact hw ⟨by omega, by omega⟩
  show wpAny _ _ (if (((sIx items.size 0 lo : Nat) : Int) == 0 && (1 : Int) == 1 && (sIx items.size items.size hi - sIx items.size 0 lo) == items.size) = true then _ else _) _ _ s
  rw [if_neg hno, pick_gen]
  first
    | exact wpAny_bind (m := Builtin.Tuple.tupleExact _) (wpAny_newObj_type (wpAny_pure ⟨_, rfl, wpAny_pure h⟩) htake)
    | exact wpAny_bind (m := Builtin.Tuple.tupleExact _) (wpAny_newObj_type (wpAny_bind (wpAny_pure (wpAny_pure ⟨_, rfl, wpAny_pure h⟩))) htake)
    | exact wpAny_bind (wpAny_bind (m := Builtin.Tuple.tupleExact _) (wpAny_newObj_type (wpAny_pure (wpAny_pure ⟨_, rfl, wpAny_pure h⟩)) htake))
    | exact wpAny_bind (wpAny_bind (m := Builtin.Tuple.tupleExact _) (wpAny_newObj_type (wpAny_pure ⟨_, rfl, wpAny_pure h⟩) htake))
end
end HT

namespace L2
open PySem PySem.Spec PyProof.Rows

/-! ### the parts of a slice -/
noncomputable abbrev TO := St → Hp → (Option Int → Hp → Prop) → Prop
/-- a slice's part (left out, or an int) -/
noncomputable def PO (X : Cx) (e : Option Expr) (t : TO) : Prop :=
  ∀ (pins : List (Addr × Obj)) (s : Shared) (σ : St) (H : Hp) (Q : Option Int → Hp → Prop), Inv X pins σ H s → t σ H Q →
    wpAny (model X.prog X.w) X.A (evalPart e X.env) (fun u s' => ∃ o H', Inv X pins σ H' s' ∧ IsPart u o ∧ Q o H') X.xe s
noncomputable def tNoPart : TO := fun _ H Q => Q none H
noncomputable def tPart (t : TE) : TO := fun σ H Q => t σ H fun x H1 => ∃ i, x = .int i ∧ Q (some i) H1

theorem intsAre_of {ns : List Int} : ∀ {us : List Value}, Vals (ns.map V.int) us → IntsAre us ns := by
  induction ns with
  | nil => intro us r; rw [List.map_nil] at r; cases r; exact .nil
  | cons n ns ih =>
    intro us r
    rw [List.map_cons] at r
    cases r with
    | cons r1 r2 =>
      obtain ⟨t, e⟩ := r1
      subst e
      exact .cons n t (ih r2)

section
variable {X : Cx} {e : Expr} {te : TE} {lo hi : Option Expr} {tl th : TO} {pos p2 : Pos}

theorem po_none : PO X none tNoPart := by
  intro pins s σ H Q I h
  rw [evalPart_none]
  exact wpAny_pure ⟨none, H, I, .none, h⟩
theorem po_some (h : PE X e te) : PO X (some e) (tPart te) := by
  intro pins s σ H Q I hw
  rw [evalPart_some]
  refine thn (h pins s σ H _ I hw) fun u s1 ⟨x, H1, I1, r1, q1⟩ => ?_
  obtain ⟨i, rfl, q⟩ := q1
  obtain ⟨t, rfl⟩ := r1
  exact ⟨some i, H1, I1, .int i t, q⟩

/-- what a slice of a value is, by values: the slice object stands at sl -/
noncomputable def SlR (X : Cx) (r : V → Option Int → Option Int → Hp → VK → Prop) : Prop :=
  ∀ (pins : List (Addr × Obj)) (s : Shared) (σ : St) (H : Hp) (x : V) (v vl vu : Value) (lo hi : Option Int) (sl : Addr) (Q : VK), Inv X pins σ H s → RelV x v → s.heap.IsSliceOf sl vl vu .none → IsPart vl lo → IsPart vu hi → r x lo hi H Q →
    ∃ T id, typeLookup (.type T) "__getitem__" = pure (some (.builtin id)) ∧ s.TypeIs v T ∧ wpAny (model X.prog X.w) X.A (getItem v (.ref sl)) (EP X pins σ Q) X.xe s
noncomputable def tSl (r : V → Option Int → Option Int → Hp → VK → Prop) (te : TE) (tl th : TO) : TE := fun σ H Q => te σ H fun x H1 => tl σ H1 fun l H2 => th σ H2 fun u H3 => r x l u H3 Q
/-- a[lo:hi], any a -/
theorem pe_slice {r : V → Option Int → Option Int → Hp → VK → Prop} (hr : SlR X r) (he : PE X e te) (hl : PO X lo tl) (hu : PO X hi th) : PE X (.Subscript e (.Slice lo hi none p2) pos) (tSl r te tl th) := by
  intro pins s σ H Q I h
  refine Subscript_ (thn (he pins s σ H _ I h) fun v s1 ⟨x, H1, I1, r1, q1⟩ => ?_)
  refine wpAny_Slice (thn (hl pins s1 σ H1 _ I1 q1) fun vl s2 ⟨l, H2, I2, pl, q2⟩ => thn (hu pins s2 σ H2 _ I2 q2) fun vu s3 ⟨u, H3, I3, pu, q3⟩ => ?_)
  rw [evalPart_none]
  refine wpAny_pure ?_
  have I4 : Inv X pins σ H3 { s3 with heap := s3.heap.push { cls := .type "slice", data := .fields #[vl, vu, .none] } } := I3.kept (t' := s3.toks) fun b ob q => Heap.get?_push_of_some _ q
  obtain ⟨T, id, hT, ht, hg⟩ := hr pins { s3 with heap := s3.heap.push { cls := .type "slice", data := .fields #[vl, vu, .none] } } σ H3 x v vl vu l u s3.heap.objs.size Q I4 r1 (Heap.IsSliceOf.new ..) pl pu q3
  show wpAny (model X.prog X.w) X.A (subscriptTail e (.Slice lo hi none p2) v (.ref s3.heap.objs.size)) (EP X pins σ Q) X.xe { s3 with heap := s3.heap.push { cls := .type "slice", data := .fields #[vl, vu, .none] } }
  exact tail_any (ops := [.ref s3.heap.objs.size, v]) ht hT hg (by with_unfolding_all rfl)

/-- the items of xs[lo:hi] -/
noncomputable def cutV (xs : List V) (lo hi : Option Int) : List V := (xs.drop (HT.sIx xs.length 0 lo)).take (HT.sIx xs.length xs.length hi - HT.sIx xs.length 0 lo)
theorem cutV_length (xs : List V) (lo hi : Option Int) : (cutV xs lo hi).length ≤ xs.length := by
  unfold cutV
  rw [List.length_take, List.length_drop]
  omega
/-- t[lo:hi], not the whole of it (the whole would be t itself) -/
noncomputable def rSlT (K : PySem.W.Frag) : V → Option Int → Option Int → Hp → VK → Prop := fun x lo hi H Q => ∃ a xs, x = .ref a ∧ SqT K H a xs ∧
  ¬ (HT.sIx xs.length 0 lo = 0 ∧ HT.sIx xs.length xs.length hi = xs.length) ∧ ∀ p, H p = none → Q (.ref p) (upd H p (.tup (cutV xs lo hi)))
theorem sl_tup : SlR X (rSlT X.K) := by
  intro pins s σ H x v vl vu lo hi sl Q I rx hs pl pu h
  obtain ⟨a, xs, rfl, hx, hw, q⟩ := h
  cases rx
  obtain ⟨its, r, ht, hz⟩ := I.tuple hx
  have hlen : its.toArray.size = xs.length := by rw [List.size_toArray]; exact r.length.symm
  refine ⟨"tuple", _, PyProof.Rows.slot_tuple_getitem.lookup, ht.typeIs, ?_⟩
  refine HT.getItem_tuple_cut ht hs pl pu (by rw [hlen]; exact hw) ?_ (by rw [hlen]; exact hz)
  rw [hlen]
  refine ⟨.ref s.heap.objs.size, _, I.laid (t' := s.toks) (o := .tup (cutV xs lo hi)) (fun b ob q => Heap.get?_push_of_some _ q) (Nat.le_refl _) ?_, rfl, q _ (I.hok.fresh (Nat.le_refl _))⟩
  exact ⟨Nat.le_trans (cutV_length xs lo hi) hz, _, (r.drop (HT.sIx xs.length 0 lo)).take (HT.sIx xs.length xs.length hi - HT.sIx xs.length 0 lo), IsTup.new _ _⟩

/-! ### t < u, t + u -/
end
end L2

namespace L2
open PySem PySem.Spec PyProof.Rows

/-! ### places -/
/-- the place that an index of any sign means -/
noncomputable def ixN (n : Nat) (i : Int) : Option Nat := if 0 ≤ i then (if i < n then some i.toNat else none) else if -(n : Int) ≤ i then some (i + n).toNat else none
noncomputable def atI {α : Type} (xs : List α) (i : Int) : Option α := (ixN xs.length i).bind fun j => xs[j]?
theorem ixN_seq {n : Nat} {i : Int} {j : Nat} (h : ixN n i = some j) : seqIndex? i n = some j ∧ j < n ∧ -(n : Int) ≤ i ∧ i < n := by
  unfold ixN at h
  by_cases h0 : 0 ≤ i
  · rw [if_pos h0] at h
    by_cases h1 : i < n
    · rw [if_pos h1] at h
      have e : i.toNat = j := Option.some.inj h
      exact ⟨by rw [seqIndex_of h0 h1, e], by omega, by omega, h1⟩
    · rw [if_neg h1] at h; cases h
  · rw [if_neg h0] at h
    by_cases h1 : -(n : Int) ≤ i
    · rw [if_pos h1] at h
      have e : (i + n).toNat = j := Option.some.inj h
      exact ⟨by rw [seqIndex_neg (by omega) h1, e], by omega, h1, by omega⟩
    · rw [if_neg h1] at h; cases h
theorem atI_get {α : Type} {xs : List α} {i : Int} {v : α} (h : atI xs i = some v) : ∃ j, seqIndex? i xs.length = some j ∧ xs[j]? = some v ∧ j < xs.length ∧ -(xs.length : Int) ≤ i ∧ i < xs.length := by
  unfold atI at h
  cases e : ixN xs.length i with
  | none => rw [e] at h; cases h
  | some j =>
    rw [e] at h
    obtain ⟨h1, h2, h3, h4⟩ := ixN_seq e
    exact ⟨j, h1, h, h2, h3, h4⟩
theorem atI_nat {α : Type} {xs : List α} {j : Nat} {v : α} (h : xs[j]? = some v) : atI xs (j : Int) = some v := by
  have hj : j < xs.length := (List.getElem?_eq_some_iff.mp h).1
  have e : ixN xs.length (j : Int) = some j := by
    unfold ixN
    rw [if_pos (by omega), if_pos (by omega)]; simp
  unfold atI; rw [e]; exact h

/-! ### what may be subscripted -/
/-- what stands as an index of a plain subscript -/
noncomputable def PlainIx (b : Expr) : Prop := ∀ o i, subscripted b false o i = operate [o, i] (getItem o i)
/-- a subscript by values -/
noncomputable def IxR (X : Cx) (r : R2) : Prop :=
  ∀ (value slice : Expr) (pins : List (Addr × Obj)) (s : Shared) (σ : St) (H : Hp) (x y : V) (v u : Value) (Q : VK), Inv X pins σ H s → RelV x v → RelV y u → r x y H Q →
    subscripted slice false v u = operate [v, u] (getItem v u) → wpAny (model X.prog X.w) X.A (subscriptTail value slice v u) (EP X pins σ Q) X.xe s
/-- a call of a builtin's method by values: the receiver, the arguments -/
noncomputable def MtR (X : Cx) (id : String) (r : V → List V → Hp → VK → Prop) : Prop :=
  ∀ (pins : List (Addr × Obj)) (s : Shared) (σ : St) (H : Hp) (x : V) (xs : List V) (v : Value) (us : List Value) (Q : VK), Inv X pins σ H s → RelV x v → Vals xs us → r x xs H Q →
    wpAny (model X.prog X.w) X.A (call (.builtin id) (v :: us)) (EP X pins σ Q) X.xe s
section
variable {X : Cx} {a b : Expr} {ta tb : TE} {pos : Pos}
/-- a[b] -/
theorem pe_ix {r : R2} (hr : IxR X r) (ha : PE X a ta) (hb : PE X b tb) (hs : PlainIx b) : PE X (.Subscript a b pos) (tOp r ta tb) := by
  intro pins s σ H Q I h
  exact Subscript_ (binT ha hb I h fun v u s2 x y H2 I2 rx ry q => hr a b pins s2 σ H2 x y v u Q I2 rx ry q (hs _ _))

noncomputable def rIxL (K : PySem.W.Frag) : R2 := fun x y H Q => ∃ p xs i v, x = .ref p ∧ y = .int i ∧ SqL K H p xs ∧ atI xs i = some v ∧ Q v H
noncomputable def rIxT (K : PySem.W.Frag) : R2 := fun x y H Q => ∃ p xs i v, x = .ref p ∧ y = .int i ∧ SqT K H p xs ∧ atI xs i = some v ∧ Q v H
noncomputable def rIxS : R2 := fun x y H Q => ∃ z i c, x = .str z ∧ y = .int i ∧ z.length ≤ sizeLine ∧ atI z.cps.toList i = some c ∧ Q (.str ⟨#[c]⟩) H
theorem ix_list : IxR X (rIxL X.K) := by
  intro value slice pins s σ H x y v u Q I rx ry h hs
  obtain ⟨p, xs, i, z, rfl, rfl, hq, he, q⟩ := h
  cases rx
  obtain ⟨t, rfl⟩ := ry
  obtain ⟨its, r, pl, hz⟩ := I.list hq
  obtain ⟨j, h1, h2, h3, h4, h5⟩ := atI_get he
  obtain ⟨w, ew, rw'⟩ := r.get h2
  have hl := r.length
  have hn := line63
  have fin : EP X pins σ Q w s := ⟨z, H, I, rw', q⟩
  by_cases h0 : 0 ≤ i
  · have hj : i.toNat = j := by
      rw [seqIndex_of h0 h5] at h1
      exact Option.some.inj h1
    exact item_listR pl.isList h0 (by omega) (by rw [hj]; simpa using ew) fin hs
  · have hj : (i + (its.toArray.size : Int)).toNat = j := by
      rw [seqIndex_neg (by omega) h4] at h1
      rw [List.size_toArray, ← hl]
      exact Option.some.inj h1
    exact subscriptTail_builtinR (x := w) pl.isList.typeIs slot_list_getitem.lookup
      (wpAny_getItem_list_neg (Q := fun r s' => r = w ∧ EP X pins σ Q r s') pl.isList (by omega) (by rw [List.size_toArray] <;> omega) (by omega) (by rw [hj]; simpa using ew) ⟨rfl, fin⟩) hs
theorem ix_tup : IxR X (rIxT X.K) := by
  intro value slice pins s σ H x y v u Q I rx ry h hs
  obtain ⟨p, xs, i, z, rfl, rfl, hq, he, q⟩ := h
  cases rx
  obtain ⟨t, rfl⟩ := ry
  obtain ⟨its, r, pl, hz⟩ := I.tuple hq
  obtain ⟨j, h1, h2, h3, h4, h5⟩ := atI_get he
  obtain ⟨w, ew, rw'⟩ := r.get h2
  have hl := r.length
  have hn := line63
  have fin : EP X pins σ Q w s := ⟨z, H, I, rw', q⟩
  exact subscriptTail_builtinR (x := w) pl.typeIs slot_tuple_getitem.lookup
    (getItem_tuple (j := j) (Q := fun r s' => r = w ∧ EP X pins σ Q r s') pl (by omega) (by omega) (by rw [List.size_toArray, ← hl]; exact h1) (by simpa using ew) ⟨rfl, fin⟩) hs
theorem ix_str : IxR X rIxS := by
  intro value slice pins s σ H x y v u Q I rx ry h hs
  obtain ⟨z, i, c, rfl, rfl, hz, he, q⟩ := h
  obtain ⟨t, rfl⟩ := rx
  obtain ⟨t', rfl⟩ := ry
  obtain ⟨j, h1, h2, h3, h4, h5⟩ := atI_get he
  have hl : z.cps.toList.length = z.length := by simp [Str.length]
  rw [hl] at h1 h4 h5
  have hn := line63
  exact tail_any (typeIs_str s z t) slot_str_getitem.lookup (getItem_str (c := c) (by
    have e1 : decide (i < -(2 ^ 63 : Int)) = false := decide_eq_false (by omega)
    have e2 : decide (i ≥ 2 ^ 63) = false := decide_eq_false (by omega)
    rw [e1, e2, Bool.or_false]) (by rw [h1]; simpa using h2) ⟨.str ⟨#[c]⟩, H, I.tok _, ⟨_, rfl⟩, q⟩) hs

/-! ### xs[i] = v, any sign -/

/-! ### slices -/
theorem slice_bounds (lo hi : Option Int) (n : Nat) : (sliceBounds lo hi none n).1 = ((HT.sIx n 0 lo : Nat) : Int) ∧ (sliceBounds lo hi none n).2.1 = ((HT.sIx n n hi : Nat) : Int) ∧ (sliceBounds lo hi none n).2.2 = 1 := by
  refine ⟨?_, ?_, rfl⟩
  · cases lo with
    | none => simp [sliceBounds, HT.sIx]
    | some i =>
      simp only [sliceBounds, HT.sIx, Option.getD_none, show (1 : Int) > 0 by decide, if_true]
      by_cases h : i < 0
      · simp only [h, if_true] <;> omega
      · simp only [h, if_false] <;> omega
  · cases hi with
    | none => simp [sliceBounds, HT.sIx]
    | some i =>
      simp only [sliceBounds, HT.sIx, Option.getD_none, show (1 : Int) > 0 by decide, if_true]
      by_cases h : i < 0
      · simp only [h, if_true] <;> omega
      · simp only [h, if_false] <;> omega
theorem slicePick_cut (its : List Value) (lo hi : Option Int) : slicePick its.toArray lo hi none = ((its.drop (HT.sIx its.length 0 lo)).take (HT.sIx its.length its.length hi - HT.sIx its.length 0 lo)).toArray := by
  obtain ⟨h1, h2, h3⟩ := slice_bounds lo hi its.toArray.size
  unfold slicePick
  rw [h1, h2, h3]
  simp only [sliceRange_one, pick_run, List.size_toArray] <;> rfl
/-- xs[lo:hi] of a list: a new list -/
noncomputable def rSlL (K : PySem.W.Frag) : V → Option Int → Option Int → Hp → VK → Prop := fun x lo hi H Q => ∃ a xs, x = .ref a ∧ SqL K H a xs ∧ ∀ p, H p = none → Q (.ref p) (upd H p (.lst (cutV xs lo hi)))
theorem sl_list : SlR X (rSlL X.K) := by
  intro pins s σ H x v vl vu lo hi sl Q I rx hs pl pu h
  obtain ⟨a, xs, rfl, hx, q⟩ := h
  cases rx
  obtain ⟨its, r, ht, hz⟩ := I.list hx
  have hlen := r.length
  refine ⟨"list", _, slot_list_getitem.lookup, ht.isList.typeIs, ?_⟩
  refine wpAny_getItem_list_slice ht.isList hs pl pu .none (by simp) ?_ (by rw [List.size_toArray] <;> omega)
  rw [slicePick_cut, ← hlen]
  refine ⟨.ref s.heap.objs.size, _, I.laid (t' := s.toks) (o := .lst (cutV xs lo hi)) (fun b ob q => Heap.get?_push_of_some _ q) (Nat.le_refl _) ?_, rfl, q _ (I.hok.fresh (Nat.le_refl _))⟩
  exact ⟨Nat.le_trans (cutV_length xs lo hi) hz, _, 0, (r.drop (HT.sIx xs.length 0 lo)).take (HT.sIx xs.length xs.length hi - HT.sIx xs.length 0 lo), Heap.get?_push_size _ rfl⟩

/-! ### in, not in: flat items -/

/-! ### len, list(x), tuple(x) of any list or tuple that is read -/
theorem call_len_seq : CallR X (.builtin "len") (fun xs H Q => ∃ p ys, xs = [.ref p] ∧ (SqL X.K H p ys ∨ SqT X.K H p ys) ∧ Q (.int ys.length) H) := by
  intro pins s σ H xs us Q I r h
  obtain ⟨p, ys, rfl, hq, q⟩ := h
  obtain ⟨u, rfl, rx⟩ := vals1 r
  cases rx
  have hn := line63
  rcases hq with hq | hq
  · obtain ⟨its, r', pl, hz⟩ := I.list hq
    have hlen := r'.length
    exact Calls.call_len_list pl.isList (by simp only [List.size_toArray] <;> omega) ⟨.int ys.length, H, I.tok _, ⟨s.toks + 1, by rw [List.size_toArray, hlen]⟩, q⟩
  · obtain ⟨its, r', pl, hz⟩ := I.tuple hq
    have hlen := r'.length
    exact len_tuple pl (by simp only [List.size_toArray] <;> omega) ⟨.int ys.length, H, I.tok _, ⟨s.toks + 1, by rw [List.size_toArray, hlen]⟩, q⟩
theorem call_len_str : CallR X (.builtin "len") (fun xs H Q => ∃ z, xs = [.str z] ∧ z.length ≤ sizeLine ∧ Q (.int z.length) H) := by
  intro pins s σ H xs us Q I r h
  obtain ⟨z, rfl, hz, q⟩ := h
  obtain ⟨u, rfl, t, rfl⟩ := vals1 r
  have hn := line63
  exact len_str (by omega) ⟨.int z.length, H, I.tok _, ⟨_, rfl⟩, q⟩
theorem call_list_of : CallR X (.type "list") (fun xs H Q => ∃ p ys, xs = [.ref p] ∧ (SqL X.K H p ys ∨ SqT X.K H p ys) ∧ ∀ l, H l = none → Q (.ref l) (upd H l (.lst ys))) := by
  intro pins s σ H xs us Q I r h
  obtain ⟨p, ys, rfl, hq, q⟩ := h
  obtain ⟨u, rfl, rx⟩ := vals1 r
  cases rx
  have fin : ∀ (its : List Value), Vals ys its → ys.length ≤ sizeLine → ∀ (h' : Heap) (c' : Nat), (∀ b o', s.heap.get? b = some o' → h'.get? b = some o') →
      h'.get? s.heap.objs.size = some { cls := .type "list", dict := none, data := .seq its.toArray c', slots := #[] } → EP X pins σ Q (.ref s.heap.objs.size) { s with heap := h' } := fun its r' hz h' c' kp e =>
    ⟨.ref s.heap.objs.size, _, I.laid (t' := s.toks) kp (Nat.le_refl _) (show ObjOk X.prog X.w _ h' _ (.lst ys) from ⟨hz, its, c', r', e⟩), rfl, q _ (I.hok.fresh (Nat.le_refl _))⟩
  rcases hq with hq | hq
  · obtain ⟨its, r', pl, hz⟩ := I.list hq
    have hlen := r'.length
    obtain ⟨o, ho, hc, n, hd⟩ := pl.isList
    exact call_list_seq p (.inl rfl) ho hc hd (fun h' c' kp e => fin its r' hz h' c' kp e) (by simp only [List.size_toArray] <;> omega)
  · obtain ⟨its, r', pl, hz⟩ := I.tuple hq
    have hlen := r'.length
    obtain ⟨o, ho, hc, n, hd⟩ := pl
    exact call_list_seq p (.inr rfl) ho hc hd (fun h' c' kp e => fin its r' hz h' c' kp e) (by simp only [List.size_toArray] <;> omega)

/-! ### the call of a builtin's method: o.m(..) -/
/-- the value is of that builtin type -/
noncomputable def tyV (K : PySem.W.Frag) (T : String) (x : V) (H : Hp) : Prop := match x with
  | .str _ => T = "str"
  | .int _ => T = "int"
  | .ref p => (T = "list" ∧ ∃ xs, SqL K H p xs) ∨ (T = "tuple" ∧ ∃ o, K.lookup p = some o ∧ o.cls = .type "tuple" ∧ o.dict = none) ∨
      (T = "dict" ∧ ((∃ kvs, H p = some (.dK kvs)) ∨ ∃ kvs, H p = some (.dT kvs))) ∨ (T = "set" ∧ ∃ S n, H p = some (.set S n))
  | _ => False
theorem tyV_is {pins : List (Addr × Obj)} {σ : St} {H : Hp} {s : Shared} {T : String} {x : V} {v : Value} (I : Inv X pins σ H s) (r : RelV x v) (ty : tyV X.K T x H) :
    s.TypeIs v T ∧ ∀ a, v = .ref a → ∃ ob, s.heap.get? a = some ob ∧ ob.dict = none := by
  cases x with
  | str z =>
    obtain ⟨t, rfl⟩ := r
    cases (show T = "str" from ty)
    exact ⟨typeIs_str s z t, fun _ e => nomatch e⟩
  | int i =>
    obtain ⟨t, rfl⟩ := r
    cases (show T = "int" from ty)
    exact ⟨typeIs_int s i t, fun _ e => nomatch e⟩
  | ref p =>
    cases r
    rcases ty with ⟨rfl, xs, hq⟩ | ⟨rfl, o, hk, hc, hd⟩ | ⟨rfl, hk⟩ | ⟨rfl, S, n, hk⟩
    · obtain ⟨its, _, pl, _⟩ := I.list hq
      refine ⟨pl.isList.typeIs, fun a e => ?_⟩
      cases e
      obtain ⟨o, n, e, c, hd, _⟩ := pl
      exact ⟨o, e, hd⟩
    · refine ⟨⟨o, I.kIn p o hk, hc⟩, fun a e => ?_⟩
      cases e
      exact ⟨o, I.kIn _ o hk, hd⟩
    · have z : ∃ o, s.heap.get? p = some o ∧ o.ExactDict := by
        rcases hk with ⟨kvs, hk⟩ | ⟨kvs, hk⟩
        · obtain ⟨_, _, _, _, o, _, _, e, ex, _⟩ := I.hok p _ hk
          exact ⟨o, e, ex⟩
        · obtain ⟨_, _, _, _, o, _, _, e, ex, _⟩ := I.hok p _ hk
          exact ⟨o, e, ex⟩
      obtain ⟨o, e, ex⟩ := z
      refine ⟨⟨o, e, ex.1⟩, fun a e2 => ?_⟩
      cases e2
      exact ⟨o, e, ex.2.1⟩
    · obtain ⟨o, _, _, _, e, ex, _⟩ := I.hok p _ hk
      refine ⟨⟨o, e, ex.1⟩, fun a e2 => ?_⟩
      cases e2
      exact ⟨o, e, ex.2.1⟩
  | _ => exact False.elim ty
noncomputable def tBM0 (K : PySem.W.Frag) (T : String) (r : V → List V → Hp → VK → Prop) (to : TE) : TE := fun σ H Q => to σ H fun x H1 => tyV K T x H1 ∧ r x [] H1 Q
noncomputable def tBM (K : PySem.W.Frag) (T : String) (r : V → List V → Hp → VK → Prop) (to : TE) (t : TA) : TE := fun σ H Q => to σ H fun x H1 => tyV K T x H1 ∧ t σ H1 fun xs H2 => r x xs H2 Q
variable {o e : Expr} {es : List Expr} {to : TE} {t : TA} {name : Str} {apos cpos : Pos} {T id : String} {r : V → List V → Hp → VK → Prop}
theorem pe_bm0 (pa : PlainAttrs T) (slot : Slot T name id) (hty : typeOf (.builtin id) = pure (.type "method_descriptor")) (hm : MtR X id r) (ho : PE X o to)
    (hbase : attributeBase o name X.env (eval o X.env) = eval o X.env := by rfl) (hline : (apos.endLine == cpos.line) = true := by rfl) : PE X (.Call (.Attribute o name apos) [] [] cpos) (tBM0 X.K T r to) := by
  intro pins s σ H Q I h
  refine wpAny_Call_method0_late hbase hline (thn (ho pins s σ H _ I h) fun v s1 ⟨x, H1, I1, r1, ty, q1⟩ => ?_)
  obtain ⟨h1, h2⟩ := tyV_is I1 r1 ty
  exact ⟨T, id, pa, slot, hty, h1, h2, Calls.callWith_builtin rfl (PySem.evalArgs_none (hm pins s1 σ H1 x [] v [] Q I1 r1 .nil q1))⟩
theorem pe_bm (pa : PlainAttrs T) (slot : Slot T name id) (hty : typeOf (.builtin id) = pure (.type "method_descriptor")) (hm : MtR X id r) (ho : PE X o to) (ha : PA X (e :: es) t)
    (hbase : attributeBase o name X.env (eval o X.env) = eval o X.env := by rfl)
    (hfew : ((backTo cpos (starEach (e :: es) X.env)).all (fun x => !x.1) && (backToKw cpos (keywordEach [] X.env)).all (fun x => x.1.isSome)
      && decide ((e :: es).length + ([] : List Keyword).length + (if ([] : List Keyword).isEmpty then 0 else 1) < 30)) = true := by rfl)
    (hline : (apos.endLine == cpos.line) = true := by rfl) (hs : starEach (e :: es) X.env = (false, eval e X.env) :: starEach es X.env := by rfl) (hplain : (backTo cpos (starEach es X.env)).any (·.1) = false := by rfl) :
    PE X (.Call (.Attribute o name apos) (e :: es) [] cpos) (tBM X.K T r to t) := by
  intro pins s σ H Q I h
  refine wpAny_Call_method_late hbase hfew hline rfl (thn (ho pins s σ H _ I h) fun v s1 ⟨x, H1, I1, r1, ty, q1⟩ => ?_)
  obtain ⟨h1, h2⟩ := tyV_is I1 r1 ty
  refine ⟨T, id, pa, slot, hty, h1, h2, ?_⟩
  have hA := ha cpos pins s1 σ H1 _ I1 q1
  rw [hs] at hA ⊢
  refine Calls.callWith_builtin (by show (false || (backTo cpos (starEach es X.env)).any (·.1)) = false; rw [hplain] <;> rfl) (Calls.evalArgs_plain ?_)
  exact thn hA fun us s2 ⟨vs, H2, I2, r2, q2⟩ => hm pins s2 σ H2 x vs v us Q I2 r1 r2 q2
/- xs.append(e), list.index on a module's tuple .. are MtR facts of 06m -/
end
end L2

namespace L2
open PySem PySem.Spec PyProof.Rows

noncomputable def MtM (X : Cx) (id : String) (r : V → List V → Hp → VK → Prop) : Prop :=
  ∀ (pins : List (Addr × Obj)) (s : Shared) (σ : St) (H : Hp) (x : V) (xs : List V) (v : Value) (us : List Value) (Q : VK), Inv X pins σ H s → RelV x v → Vals xs us → r x xs H Q →
    wpAny (model X.prog X.w) X.A (call (.builtin id) (v :: us)) (EP X pins σ Q) X.xe s

/-! ### lists of values -/
theorem Vals.one : ∀ {x : V} {us : List Value}, Vals [x] us → ∃ u, us = [u] ∧ RelV x u
  | _, _, .cons r .nil => ⟨_, rfl, r⟩
theorem Vals.two : ∀ {x y : V} {us : List Value}, Vals [x, y] us → ∃ u v, us = [u, v] ∧ RelV x u ∧ RelV y v
  | _, _, _, .cons r (.cons q .nil) => ⟨_, _, rfl, r, q⟩
theorem Vals.zero : ∀ {us : List Value}, Vals [] us → us = []
  | _, .nil => rfl
theorem Vals.dropLast {xs : List V} {us : List Value} (h : Vals xs us) : Vals xs.dropLast us.dropLast := by
  induction h with
  | nil => exact .nil
  | cons r t ih =>
    cases t with
    | nil => exact .nil
    | cons q t' => exact .cons r ih
theorem Vals.rep {xs : List V} {us : List Value} (h : Vals xs us) : ∀ k : Nat, Vals (List.replicate k xs).flatten (List.replicate k us).flatten
  | 0 => .nil
  | k + 1 => by
    rw [List.replicate_succ, List.replicate_succ, List.flatten_cons, List.flatten_cons]
    exact Vals.append h (Vals.rep h k)
theorem erase_last {α : Type} (l : List α) : l.eraseIdx (l.length - 1) = l.dropLast := by
  induction l with
  | nil => rfl
  | cons a r ih =>
    cases r with
    | nil => rfl
    | cons b r =>
      have e : (a :: b :: r).length - 1 = ((b :: r).length - 1) + 1 := by
        have h1 : (a :: b :: r).length = r.length + 2 := rfl
        have h2 : (b :: r).length = r.length + 1 := rfl
        omega
      rw [e, List.eraseIdx_cons_succ, ih]
      all_goals rfl
theorem foldl_rep (its : List Value) : ∀ (k : Nat) (acc : List Value),
    List.foldl (fun x1 x2 => x1 ++ x2) acc.toArray (List.replicate k its.toArray) = (acc ++ (List.replicate k its).flatten).toArray
  | 0, acc => by simp
  | k + 1, acc => by
    have e : acc.toArray ++ its.toArray = (acc ++ its).toArray := by simp
    have e2 : (acc ++ its) ++ (List.replicate k its).flatten = acc ++ (List.replicate (k + 1) its).flatten := by
      rw [List.replicate_succ, List.flatten_cons, List.append_assoc]
    rw [← e2, ← foldl_rep its k (acc ++ its), ← e, List.replicate_succ, List.foldl_cons]

section
variable {X : Cx} {pins : List (Addr × Obj)} {σ : St} {H : Hp} {s : Shared} {l b : Addr} {xs ys zs : List V}

/-! ### the two steps: a tracked list is rewritten, a new list is laid -/
theorem Inv.lset {its its' : List Value} {n : Nat} {f : Array Value → Array Value} {t' : Nat} (I : Inv X pins σ H s) (hH : H l = some (.lst xs))
    (e : s.heap.get? l = some { cls := .type "list", data := .seq its.toArray n }) (hf : f its.toArray = its'.toArray) (hv : Vals ys its') (hz : ys.length ≤ sizeLine) :
    Inv X pins σ (upd H l (.lst ys)) { s with heap := s.heap.update l (Obj.mapSeq f), toks := t' } := by
  have q := PySem.IsL.update e f
  rw [hf] at q
  refine I.write (x := l) (e := l) (by rw [hH]; exact trivial) (.inl rfl) (fun b' u hb hu => (Heap.get?_update_other s.heap (Obj.mapSeq f) (Ne.symm hb)).trans hu) ⟨_, q⟩ ?_
  exact ⟨hz, its', _, hv, q⟩
theorem Inv.lnew {its : List Value} {t' : Nat} (I : Inv X pins σ H s) (hv : Vals ys its) (hz : ys.length ≤ sizeLine) :
    Inv X pins σ (upd H s.heap.objs.size (.lst ys)) { s with heap := s.heap.push { cls := .type "list", data := .seq its.toArray }, toks := t' } :=
  I.laid (fun _ _ q => Heap.get?_push_of_some _ q) (Nat.le_refl _) ⟨hz, its, 0, hv, Heap.get?_push_size _ rfl⟩
theorem Inv.fresh (I : Inv X pins σ H s) : H s.heap.objs.size = none := I.hok.fresh (Nat.le_refl _)
theorem Inv.lstM (I : Inv X pins σ H s) (hH : H l = some (.lst xs)) : xs.length ≤ sizeLine ∧ ∃ (its : List Value) (n : Nat), Vals xs its ∧ xs.length = its.length ∧ s.heap.get? l = some { cls := .type "list", data := .seq its.toArray n } := by
  obtain ⟨z, its, n, r, e⟩ := I.hok l _ hH
  exact ⟨z, its, n, r, r.length, e⟩

theorem notLongL {n : Nat} (h : n ≤ sizeLine) : Builtin.List.listTooLong n = false := by
  unfold Builtin.List.listTooLong
  exact decide_eq_false (by omega)
end

section
variable {X : Cx}

/-! ### methods -/
noncomputable def rAppend : V → List V → Hp → VK → Prop := fun x vs H Q => ∃ l xs y, x = .ref l ∧ vs = [y] ∧ H l = some (.lst xs) ∧ xs.length < sizeLine ∧ Q .non (upd H l (.lst (xs ++ [y])))
theorem mt_append : MtM X "list.append" rAppend := by
  intro pins s σ H x vs v us Q I rx rv h
  obtain ⟨l, xs, y, rfl, rfl, hH, hz, q⟩ := h
  cases rx
  obtain ⟨u, rfl, ru⟩ := rv.one
  obtain ⟨z, its, n, r, hl, e⟩ := I.lstM hH
  refine call_meets F.slot_list_append ⟨_, e, rfl⟩ F.entry_list_append (F.args_list_append_2 _ _) (PySem.list_append l its.toArray n u (by rw [List.size_toArray]; omega)) ⟨e, ?_⟩
  refine ⟨.non, _, I.lset (its' := its ++ [u]) hH e (by simp) (r.append (.cons ru .nil)) ?_, rfl, q⟩
  rw [List.length_append, List.length_singleton]
  omega


noncomputable def rPop : V → List V → Hp → VK → Prop := fun x vs H Q => ∃ l xs y, x = .ref l ∧ vs = [] ∧ H l = some (.lst xs) ∧ xs[xs.length - 1]? = some y ∧ Q y (upd H l (.lst xs.dropLast))
theorem mt_pop : MtM X "list.pop" rPop := by
  intro pins s σ H x vs v us Q I rx rv h
  obtain ⟨l, xs, y, rfl, rfl, hH, hy, q⟩ := h
  cases rx
  have hus := rv.zero
  subst hus
  obtain ⟨z, its, n, r, hl, e⟩ := I.lstM hH
  obtain ⟨u, hu, ru⟩ := r.get hy
  have hy' : its.toArray[its.toArray.size - 1]? = some u := by
    show its.toArray[its.length - 1]? = some u
    rw [← Array.getElem?_toList, ← hl]
    exact hu
  refine call_meets F.slot_list_pop ⟨_, e, rfl⟩ F.entry_list_pop (F.args_list_pop_1 _) (MeetsSeq.list_pop_last l its.toArray n u hy' (by rw [List.size_toArray]; omega)) ⟨e, ?_⟩
  refine ⟨y, _, I.lset (its' := its.dropLast) hH e ?_ r.dropLast ?_, ru, q⟩
  · show its.toArray.eraseIdxIfInBounds (its.toArray.size - 1) = its.dropLast.toArray
    rw [List.size_toArray, List.eraseIdxIfInBounds_toArray, erase_last]
  · rw [List.length_dropLast]
    omega




/-! ### list + list, list += list, list * int -/
noncomputable def rCat : R2 := fun x y H Q => ∃ l b xs zs, x = .ref l ∧ y = .ref b ∧ H l = some (.lst xs) ∧ H b = some (.lst zs) ∧ xs.length + zs.length ≤ sizeLine ∧ ∀ p, H p = none → Q (.ref p) (upd H p (.lst (xs ++ zs)))
theorem op_cat : OpR X (binaryOp .Add) rCat := by
  intro pins s σ H x y v u Q I rx ry h
  obtain ⟨l, b, xs, zs, rfl, rfl, hH, hB, hz, q⟩ := h
  cases rx
  cases ry
  obtain ⟨z, its, n, r, hl, e⟩ := I.lstM hH
  obtain ⟨z2, its2, n2, r2, hl2, e2⟩ := I.lstM hB
  refine PySem.P.add_list e e2 ?_ (by rw [List.size_toArray, List.size_toArray]; omega)
  have ea : its.toArray ++ its2.toArray = (its ++ its2).toArray := by simp
  rw [ea]
  exact ⟨.ref _, _, I.lnew (t' := s.toks) (r.append r2) (by rw [List.length_append]; omega), rfl, q _ I.fresh⟩
/-- a list times an int (a negative one is nothing) -/
noncomputable def rRep : R2 := fun x y H Q => ∃ l k xs, x = .ref l ∧ y = .int k ∧ H l = some (.lst xs) ∧ -(2 ^ 63) ≤ k ∧ k < 2 ^ 63 ∧ xs.length * k.toNat ≤ sizeLine ∧
  ∀ p, H p = none → Q (.ref p) (upd H p (.lst (List.replicate k.toNat xs).flatten))
theorem len_rep {α : Type} (xs : List α) (k : Nat) : (List.replicate k xs).flatten.length = k * xs.length := by
  induction k with
  | zero => simp
  | succ k ih => rw [List.replicate_succ, List.flatten_cons, List.length_append, ih, Nat.succ_mul, Nat.add_comm]
theorem op_rep : OpR X (binaryOp .Mult) rRep := by
  intro pins s σ H x y v u Q I rx ry h
  obtain ⟨l, k, xs, rfl, rfl, hH, h1, h2, hz, q⟩ := h
  cases rx
  obtain ⟨t, rfl⟩ := ry
  obtain ⟨z, its, n, r, hl, e⟩ := I.lstM hH
  have hlen : its.toArray.size * k.toNat ≤ sizeLine := by rw [List.size_toArray, ← hl]; exact hz
  have hcap : ¬ its.toArray.size * k.toNat > (2 ^ 63 - 1) / 8 := by
    have : (sizeLine : Nat) ≤ (2 ^ 63 - 1) / 8 := by decide
    omega
  have hfit : ¬ (!Builtin.List.listFitsIndex k) = true := by
    rw [fitsIndex_both h1 h2]
    exact Bool.false_ne_true
  have hlong : ¬ Builtin.List.listTooLong (its.toArray.size * k.toNat) = true := by
    rw [notLongL hlen]
    exact Bool.false_ne_true
  have hnew : List.foldl (fun x1 x2 => x1 ++ x2) #[] (List.replicate (if its.toArray.isEmpty = true then 0 else k.toNat) its.toArray) = (List.replicate k.toNat its).flatten.toArray := by
    have f0 : ∀ m : Nat, List.foldl (fun x1 x2 => x1 ++ x2) #[] (List.replicate m its.toArray) = (List.replicate m its).flatten.toArray := fun m => by
      have := foldl_rep its m []
      rw [List.nil_append] at this
      exact this
    rw [f0]
    cases its with
    | nil => simp
    | cons a r' => rw [if_neg (by simp)]
  refine wpAny_binaryOp_repeat_ref (T := "list") (U := "int") (by decide) ⟨_, e, rfl⟩ (fun s' => typeIs_int s' k t) noFill_list_mul F.fills_int_mul F.slot_int_rmul repeat_list F.slot_int_index.lookup
    (call_meets F.slot_int_rmul (typeIs_int s k t) F.entry_int_rmul (F.args_int_rmul_2 _ _) (int___rmul___int_list k t l its.toArray n)
      ⟨e, rfl, ⟨_, e, rfl⟩, call_meets F.slot_list_mul ⟨_, e, rfl⟩ F.entry_list_mul (F.args_list_mul_2 _ _) (AutoListH.list___mul___list_int_3 l its.toArray n k t hfit hcap hlong) ⟨e, ?_⟩⟩)
  rw [hnew]
  exact ⟨.ref _, _, I.lnew (t' := s.toks) (r.rep k.toNat) (by rw [len_rep, Nat.mul_comm]; exact hz), rfl, q _ I.fresh⟩

/-! ### del xs[i] -/
end

/-! ### xs[a:b] = ys -/
section
variable {prog : Program} {w : World} {A : Around} {E : Value → Shared → Prop} {s : Shared}
end

section
variable {X : Cx}
end
end L2

namespace L2
open PySem PySem.Spec PyProof.Rows

/-! ### lists of pairs as tables -/
section
variable {κ : Type} [DecidableEq κ]
noncomputable def valV (kvs : List (κ × V)) (k : κ) : Option V := (kvs.find? fun kv => decide (kv.1 = k)).map (·.2)
/-- in its place, or at the end -/
noncomputable def putK (kvs : List (κ × V)) (k : κ) (v : V) : List (κ × V) :=
  if (kvs.any fun kv => decide (kv.1 = k)) = true then kvs.map (fun kv => if kv.1 = k then (kv.1, v) else kv) else kvs ++ [(k, v)]

theorem valV_pos {p : κ × V} {r : List (κ × V)} {k : κ} (e : p.1 = k) : valV (p :: r) k = some p.2 := by simp [valV, List.find?_cons, e]
theorem valV_neg {p : κ × V} {r : List (κ × V)} {k : κ} (e : ¬ p.1 = k) : valV (p :: r) k = valV r k := by simp [valV, List.find?_cons, e]
theorem valV_any (k : κ) : ∀ kvs : List (κ × V), (kvs.any fun kv => decide (kv.1 = k)) = (valV kvs k).isSome
  | [] => rfl
  | p :: r => by
    rw [List.any_cons]
    by_cases e : p.1 = k
    · simp only [valV_pos e, decide_eq_true e, Bool.true_or, Option.isSome_some]
    · rw [valV_neg e, decide_eq_false e, Bool.false_or]; exact valV_any k r
theorem length_putK (kvs : List (κ × V)) (k : κ) (v : V) : (putK kvs k v).length ≤ kvs.length + 1 := by
  unfold putK
  split
  · rw [List.length_map]; omega
  · rw [List.length_append, List.length_cons, List.length_nil]; omega

theorem RelO.isSome_eq {o : Option V} {u : Option Value} (r : RelO o u) : o.isSome = u.isSome := by
  cases o with
  | none => cases u with
    | none => rfl
    | some _ => exact (show False from r).elim
  | some _ => cases u with
    | none => exact (show False from r).elim
    | some _ => rfl

/-- raw tables of the same keys -/
theorem KV.val {kvs : List (κ × V)} {vs : List (κ × Value)} (r : KV kvs vs) (k : κ) : RelO (valV kvs k) (valueAt vs k) := by
  unfold KV at r
  induction r with
  | nil => exact True.intro
  | @cons p q ps qs h t ih =>
    obtain ⟨h1, h2⟩ := h
    by_cases e : p.1 = k
    · have e' : q.1 = k := h1.symm.trans e
      have b : valueAt (q :: qs) k = some q.2 := by simp [valueAt, List.find?_cons, e']
      rw [valV_pos e, b]; exact h2
    · have e' : ¬ q.1 = k := fun z => e (h1.trans z)
      have b : valueAt (q :: qs) k = valueAt qs k := by simp [valueAt, List.find?_cons, e']
      rw [valV_neg e, b]; exact ih
theorem KV.any {kvs : List (κ × V)} {vs : List (κ × Value)} (r : KV kvs vs) (k : κ) : (kvs.any fun kv => decide (kv.1 = k)) = vs.any fun kv => decide (kv.1 = k) := by
  unfold KV at r
  induction r with
  | nil => rfl
  | cons h t ih => rw [List.any_cons, List.any_cons, ih, h.1]
theorem KV.repl {kvs : List (κ × V)} {vs : List (κ × Value)} (r : KV kvs vs) (k : κ) {y : V} {u : Value} (ry : RelV y u) :
    KV (kvs.map fun kv => if kv.1 = k then (kv.1, y) else kv) (vs.map fun kv => if kv.1 = k then (kv.1, u) else kv) := by
  unfold KV at r ⊢
  induction r with
  | nil => exact .nil
  | @cons p q ps qs h t ih =>
    rw [List.map_cons, List.map_cons]
    refine .cons ?_ ih
    obtain ⟨h1, h2⟩ := h
    by_cases e : p.1 = k
    · rw [if_pos e, if_pos (h1.symm.trans e)]; exact ⟨h1, ry⟩
    · rw [if_neg e, if_neg (fun z => e (h1.trans z))]; exact ⟨h1, h2⟩
theorem KV.put {kvs : List (κ × V)} {vs : List (κ × Value)} (r : KV kvs vs) (k : κ) {y : V} {u : Value} (ry : RelV y u) : KV (putK kvs k y) (stored vs k u) := by
  unfold putK stored
  rw [r.any k]
  by_cases e : (vs.any fun kv => decide (kv.1 = k)) = true
  · rw [if_pos e, if_pos e]; exact r.repl k ry
  · rw [if_neg e, if_neg e]; exact Paired.snoc r ⟨rfl, ry⟩
theorem KV.length {kvs : List (κ × V)} {vs : List (κ × Value)} (r : KV kvs vs) : kvs.length = vs.length := Paired.length r
end


/-! ### a tracked dict, its keys ints and texts or tuples of these -/
theorem kV_is {P : Program} {w : World} {k : Key} {u : Value} (r : RelV (kV k) u) : (mixKind P w).is k u = true := by
  cases k with
  | inl i => obtain ⟨t, e⟩ := (show ∃ t, u = Value.int i t from r); subst e; exact mixKind_int P w i t
  | inr x => obtain ⟨t, e⟩ := (show ∃ t, u = Value.str x t from r); subst e; exact mixKind_str P w x t
theorem items_are {P : Program} {w : World} : ∀ {ks : List Key} {us : List Value}, Vals (ks.map kV) us → ItemsAre (mixKind P w) ks us
  | [], _, r => by rw [List.map_nil] at r; cases r; exact .nil
  | k :: ks, _, r => by
    rw [List.map_cons] at r
    cases r with
    | cons h t => exact .cons (kV_is h) (items_are t)

/-- raw entries of a dict with tuple keys -/
noncomputable abbrev KT (H : Hp) : List (List Key × V) → List (List Key × Addr × Value) → Prop := Paired fun p q => p.1 = q.1 ∧ H q.2.1 = some (.tup (p.1.map kV)) ∧ RelV p.2 q.2.2
theorem KT.val {H : Hp} {kvs : List (List Key × V)} {xs : List (List Key × Addr × Value)} (r : KT H kvs xs) (k : List Key) : RelO (valV kvs k) ((atKey xs k).map (·.2)) := by
  induction r with
  | nil => exact True.intro
  | @cons p q ps qs h t ih =>
    obtain ⟨h1, _, h2⟩ := h
    by_cases e : p.1 = k
    · have e' : q.1 = k := h1.symm.trans e
      have b : atKey (q :: qs) k = some q.2 := by simp [atKey, List.find?_cons, e']
      rw [valV_pos e, b]; exact h2
    · have e' : ¬ q.1 = k := fun z => e (h1.trans z)
      have b : atKey (q :: qs) k = atKey qs k := by simp [atKey, List.find?_cons, e']
      rw [valV_neg e, b]; exact ih
theorem KT.repl {H : Hp} {kvs : List (List Key × V)} {xs : List (List Key × Addr × Value)} (r : KT H kvs xs) (k : List Key) {y : V} {u : Value} (ry : RelV y u) :
    KT H (kvs.map fun kv => if kv.1 = k then (kv.1, y) else kv) (xs.map (putAt k u)) := by
  induction r with
  | nil => exact .nil
  | @cons p q ps qs h t ih =>
    rw [List.map_cons, List.map_cons]
    refine .cons ?_ ih
    obtain ⟨h1, h2, h3⟩ := h
    unfold putAt
    by_cases e : p.1 = k
    · rw [if_pos e, if_pos (h1.symm.trans e)]; exact ⟨h1, h2, ry⟩
    · rw [if_neg e, if_neg (fun z => e (h1.trans z))]; exact ⟨h1, h2, h3⟩
theorem KT.put {H : Hp} {kvs : List (List Key × V)} {xs : List (List Key × Addr × Value)} (r : KT H kvs xs) (k : List Key) {b : Addr} {y : V} {u : Value} (hb : H b = some (.tup (k.map kV))) (ry : RelV y u) :
    KT H (putK kvs k y) (storedH xs k b u) := by
  have e : (kvs.any fun kv => decide (kv.1 = k)) = (atKey xs k).isSome := by
    rw [valV_any, (r.val k).isSome_eq, Option.isSome_map]
  unfold putK storedH
  rw [e]
  by_cases q : (atKey xs k).isSome = true
  · rw [if_pos q, if_pos q]; exact r.repl k ry
  · rw [if_neg q, if_neg q]; exact Paired.snoc r ⟨rfl, hb, ry⟩
theorem KT.keeps {H H' : Hp} {kvs : List (List Key × V)} {xs : List (List Key × Addr × Value)} (r : KT H kvs xs) (ht : ∀ b ys, H b = some (.tup ys) → H' b = some (.tup ys)) : KT H' kvs xs :=
  Paired.mapP r fun _ _ z => ⟨z.1, ht _ _ z.2.1, z.2.2⟩

section
variable {P : Program} {w : World} {H : Hp} {h : Heap} {a : Addr}
theorem rd_of {u : HO} (ok : HOk P w H h) (e : Rd H a u) : ObjOk P w H h a u := e.ok ok
theorem dk_rd {kvs : List (Key × V)} (ok : HOk P w H h) (e : Rd H a (.dK kvs)) : kvs.length ≤ sizeLine ∧ (a == sysModules) = false ∧ ∃ vs, KV kvs vs ∧ h.DictOf (mixKind P w) a vs :=
  show ObjOk P w H h a (.dK kvs) from rd_of ok e
theorem dk_of {kvs : List (Key × V)} (ok : HOk P w H h) (e : H a = some (.dK kvs)) : kvs.length ≤ sizeLine ∧ (a == sysModules) = false ∧ ∃ vs, KV kvs vs ∧ h.DictOf (mixKind P w) a vs := dk_rd ok (.inl e)
/-- a tracked tuple of ints and texts is a key -/
theorem key_of {ks : List Key} (ok : HOk P w H h) (e : H a = some (.tup (ks.map kV))) : (tupleKind (mixKind P w)).is h ks a := by
  obtain ⟨_, its, r, o, h1, h2, n, h3⟩ := (show ObjOk P w H h a (.tup (ks.map kV)) from ok a _ e)
  exact ⟨o, its.toArray, n, h1, h2, h3, by simpa using items_are r⟩
theorem dt_rd {kvs : List (List Key × V)} (ok : HOk P w H h) (e : Rd H a (.dT kvs)) : kvs.length ≤ sizeLine ∧ (a == sysModules) = false ∧
    ∃ xs, KT H kvs xs ∧ h.DictOfH (tupleKind (mixKind P w)) a xs := by
  obtain ⟨z, y, xs, r, o, es, ep, h1, h2, h3, h4, h5⟩ := (show ObjOk P w H h a (.dT kvs) from rd_of ok e)
  refine ⟨z, y, xs, r, o, es, ep, h1, h2, h3, h4, fun x hx => ?_, h5⟩
  have all : ∀ {l : List (List Key × V)} {m : List (List Key × Addr × Value)}, KT H l m → ∀ x ∈ m, (tupleKind (mixKind P w)).is h x.1 x.2.1 := by
    intro l m q
    induction q with
    | nil => intro x hx; exact nomatch hx
    | @cons p q ps qs hq t ih =>
      intro x hx
      rcases List.mem_cons.mp hx with e | hx
      · subst e
        exact key_of ok (by rw [← hq.1]; exact hq.2.1)
      · exact ih x hx
  exact all r x hx
theorem dt_of {kvs : List (List Key × V)} (ok : HOk P w H h) (e : H a = some (.dT kvs)) : kvs.length ≤ sizeLine ∧ (a == sysModules) = false ∧
    ∃ xs, KT H kvs xs ∧ h.DictOfH (tupleKind (mixKind P w)) a xs := dt_rd ok (.inl e)
end

/-- what the dict at a holds at the key y -/
noncomputable def DGet (H : Hp) (a : Addr) (y : V) (r : Option V) : Prop :=
  (∃ kvs k, Rd H a (.dK kvs) ∧ y = kV k ∧ r = valV kvs k) ∨ ∃ kvs k b, Rd H a (.dT kvs) ∧ y = .ref b ∧ H b = some (.tup (k.map kV)) ∧ r = valV kvs k
/-- the heap behind a[y] = v -/
noncomputable def DPut (H : Hp) (a : Addr) (y v : V) (H' : Hp) : Prop :=
  (∃ kvs k, H a = some (.dK kvs) ∧ y = kV k ∧ kvs.length < sizeLine ∧ H' = upd H a (.dK (putK kvs k v))) ∨
  ∃ kvs k b, H a = some (.dT kvs) ∧ y = .ref b ∧ H b = some (.tup (k.map kV)) ∧ kvs.length < sizeLine ∧ H' = upd H a (.dT (putK kvs k v))
theorem DGet.k {H : Hp} {a : Addr} {kvs : List (Key × V)} {k : Key} (e : H a = some (.dK kvs)) : DGet H a (kV k) (valV kvs k) := .inl ⟨kvs, k, .inl e, rfl, rfl⟩
theorem DPut.k {H : Hp} {a : Addr} {kvs : List (Key × V)} {k : Key} {v : V} (e : H a = some (.dK kvs)) (hl : kvs.length < sizeLine) : DPut H a (kV k) v (upd H a (.dK (putK kvs k v))) := .inl ⟨kvs, k, e, rfl, hl, rfl⟩


section
variable {X : Cx} {pins : List (Addr × Obj)} {σ : St} {H : Hp} {s : Shared} {a : Addr} {y v : V} {u r : Value} {o : Option V} {A : Around} {E : Value → Shared → Prop}

theorem Inv.big (I : Inv X pins σ H s) : sysModules < s.heap.objs.size := by
  have h : mainGlobals < s.heap.objs.size := (I.mod.glob.keeps I.bk).lt
  exact Nat.lt_trans (by decide) h

/-- d[y], there -/
theorem d_getItem {Q : Value → Shared → Prop} (hu : A.units + 1 < cLine) (I : Inv X pins σ H s) (g : DGet H a y (some v)) (ry : RelV y u) (h : ∀ w' s', Inv X pins σ H s' → RelV v w' → Q w' s') :
    wpAny (model X.prog X.w) A (getItem (.ref a) u) Q E s := by
  rcases g with ⟨kvs, k, e, ey, l⟩ | ⟨kvs, k, b, e, ey, eb, l⟩
  · subst ey
    obtain ⟨z, hd, vs, rel, dd⟩ := dk_rd I.hok e
    obtain ⟨w', hw, rw'⟩ := RelO.some_of (v := v) (o := valueAt vs k) (by rw [l]; exact rel.val k)
    exact wpAny_getItem_of (kV_is ry) dd.mapOf hw (h w' _ (I.tok _) rw')
  · subst ey
    cases (show u = Value.ref b from ry)
    obtain ⟨z, hd, xs, rel, dd⟩ := dt_rd I.hok e
    obtain ⟨w', hw, rw'⟩ := RelO.some_of (v := v) (o := (atKey xs k).map (·.2)) (by rw [l]; exact rel.val k)
    obtain ⟨p, hp, hp2⟩ := Option.map_eq_some_iff.mp hw
    refine wpAny_getItem_heap (tupleKind_room_in1 hu) (key_of I.hok eb) dd hp ?_
    rw [hp2]
    exact h w' _ (I.tok _) rw'
/-- a dict's object is replaced -/
theorem d_write {h' : Heap} {t' : Nat} {ob : HO} (I : Inv X pins σ H s) (mu : Mut (H a)) (hs : Heap.SameBut a s.heap h') (he : ∃ q, h'.get? a = some q) (new : ObjOk X.prog X.w (upd H a ob) h' a ob) :
    Inv X pins σ (upd H a ob) { s with heap := h', toks := t' } :=
  I.write (x := a) (e := a) mu (.inl rfl) (fun b q hb z => (hs.2 b hb).trans z) he new
theorem dk_new {P : Program} {w : World} {H' : Hp} {h' : Heap} {kvs : List (Key × V)} {vs : List (Key × Value)} (z : kvs.length ≤ sizeLine) (hd : (a == sysModules) = false) (rel : KV kvs vs) (dd : h'.DictOf (mixKind P w) a vs) :
    ObjOk P w H' h' a (.dK kvs) := ⟨z, hd, vs, rel, dd⟩
/-- d[y] = v -/
theorem d_setItem {H' : Hp} {Q : Unit → Shared → Prop} (hu : A.units + 1 < cLine) (I : Inv X pins σ H s) (g : DPut H a y v H') (ry : RelV y u) (rv : RelV v r) (h : ∀ s', Inv X pins σ H' s' → Q () s') :
    wpAny (model X.prog X.w) A (setItem (.ref a) u r) Q E s := by
  rcases g with ⟨kvs, k, e, ey, l, eH⟩ | ⟨kvs, k, b, e, ey, eb, l, eH⟩
  · subst ey eH
    obtain ⟨z, hd, vs, rel, dd⟩ := dk_of I.hok e
    have hz : vs.length ≤ sizeLine := by rw [← rel.length]; exact z
    have hl : (putK kvs k v).length ≤ sizeLine := by have := length_putK kvs k v; omega
    refine wpAny_setItem_pairs (hsz := hz) (kV_is ry) dd fun h' dd' hs => h _ ?_
    have he : ∃ q, h'.get? a = some q := let ⟨q, _, _, hq, _⟩ := dd'; ⟨q, hq⟩
    exact d_write I (by rw [e]; exact True.intro) hs he (dk_new hl hd (rel.put k rv) dd')
  · subst ey eH
    cases (show u = Value.ref b from ry)
    obtain ⟨z, hd, xs, rel, dd⟩ := dt_of I.hok e
    have hz : xs.length ≤ sizeLine := by rw [← Paired.length rel]; exact z
    have hl : (putK kvs k v).length ≤ sizeLine := by have := length_putK kvs k v; omega
    refine wpAny_setItem_heap (hsz := hz) (tupleKind_room_in1 hu) (key_of I.hok eb) dd fun h' dd' hs => h _ ?_
    obtain ⟨q, es, ep, hq, h2, h3, h4, _, h5⟩ := dd'
    refine d_write I (by rw [e]; exact True.intro) hs ⟨q, hq⟩ ⟨hl, hd, _, (rel.put k eb rv).keeps fun c ys ec => ?_, q, es, ep, hq, h2, h3, h4, h5⟩
    rw [upd_ne (ne_of ec e (fun z => nomatch z))]
    exact ec
end

section
variable {X : Cx} {pins : List (Addr × Obj)} {σ : St} {H : Hp} {s : Shared} {a : Addr} {kvs : List (Key × V)} {k : Key} {u : Value} {A : Around} {E : Value → Shared → Prop}
end


/-! ### readings and rules -/
/-- the element of a subscription, not a slice -/
noncomputable def NoSl (i : Expr) : Prop := ∀ ov iv, subscripted i false ov iv = operate [ov, iv] (getItem ov iv)
theorem subD_of {prog : Program} {w : World} {A : Around} {E : Value → Shared → Prop} {s : Shared} {env : Env} {value slice : Expr} {pos : Pos} {T id : String} {Q : Value → Shared → Prop}
    (hl : typeLookup (.type T) "__getitem__" = pure (some (.builtin id))) (hs : NoSl slice)
    (h : wpAny (model prog w) A (eval value env) (fun o s₁ => wpAny (model prog w) A (eval slice env) (fun i s₂ => s₂.TypeIs o T ∧ wpAny (model prog w) A (getItem o i) Q E s₂) E s₁) E s) :
    wpAny (model prog w) A (eval (.Subscript value slice pos) env) Q E s := by
  refine Subscript_ (wpAny_mono h (fun o s₁ h₁ => wpAny_mono h₁ (fun i s₂ h₂ => ?_) fun _ _ x => x) fun _ _ x => x)
  obtain ⟨hT, h₂⟩ := h₂
  unfold subscriptTail
  refine wpAny_bind ?_
  rw [getitemInPython_of_ne hT.not_modules]
  refine wpAny_bind (wpAny_specialOf hT hl ?_)
  have fin : wpAny (model prog w) A (subscripted slice false o i) (fun r s₃ => wpAny (model prog w) A (letTemporaryGo value o r >>= fun _ => pure r) Q E s₃) E s₂ := by
    rw [hs o i]
    exact wpAny_operating (wpAny_mono h₂ (fun r s₃ h₃ => wpAny_bind (wpAny_letTemporaryGo (wpAny_pure h₃))) fun _ _ x => x)
  first
    | exact wpAny_pure (wpAny_bind fin)
    | exact wpAny_bind (wpAny_pure (wpAny_bind fin))
    | exact wpAny_bind fin

theorem dict_typeIs {X : Cx} {pins : List (Addr × Obj)} {σ : St} {H : Hp} {s : Shared} {a : Addr} {y : V} {o : Option V} (I : Inv X pins σ H s) (g : DGet H a y o) : s.TypeIs (.ref a) "dict" := by
  rcases g with ⟨kvs, k, e, _, _⟩ | ⟨kvs, k, b, e, _, _, _⟩
  · obtain ⟨_, _, vs, _, dd⟩ := dk_rd I.hok e
    exact dd.typeIs
  · obtain ⟨_, _, xs, _, dd⟩ := dt_rd I.hok e
    exact dd.typeIs

/-- d[y] -/
noncomputable def tDGet (td ty : TE) : TE := fun σ H Q => td σ H fun x H1 => ty σ H1 fun y H2 => ∃ a v, x = .ref a ∧ DGet H2 a y (some v) ∧ Q v H2
/-- d[y] = v -/
noncomputable def sDPut (td ty tv : TE) : TS := fun D σ H => tv σ H fun v H1 => td σ H1 fun x H2 => ty σ H2 fun y H3 => ∃ a H4, x = .ref a ∧ DPut H3 a y v H4 ∧ D.nx σ H4

section
variable {X : Cx} {o i e value : Expr} {pos pos' tpos : Pos} {td ty tv : TE}
theorem pe_dget (hu : X.A.units + 1 < cLine) (ho : PE X o td) (hi : PE X i ty) (hs : NoSl i) : PE X (.Subscript o i pos) (tDGet td ty) := by
  intro pins s σ H Q I h
  refine subD_of PySem.F.slot_dict_getitem.lookup hs (thn (ho pins s σ H _ I h) fun u s1 ⟨x, H1, I1, rx, q1⟩ => thn (hi pins s1 σ H1 _ I1 q1) fun iv s2 ⟨y, H2, I2, ry, a, v, ex, g, q2⟩ => ?_)
  subst ex
  obtain rfl : u = Value.ref a := rx
  exact ⟨dict_typeIs I2 g, d_getItem hu I2 g ry fun w' s3 I3 rw' => ⟨v, H2, I3, rw', q2⟩⟩
theorem ps_dput (hu : X.A.units + 1 < cLine) (ho : PE X o td) (hi : PE X i ty) (hv : PE X value tv) (hs : swapsWith value (some (.Subscript o i pos')) pos.line X.env = pure false) :
    PS X (.Assign [.Subscript o i pos'] value pos) (sDPut td ty tv) := by
  intro pins s σ H D I h
  refine wpAny_Assign_Subscript (thn (hv pins s σ H _ I h) fun r s1 ⟨v, H1, I1, rv, q1⟩ => thn (ho pins s1 σ H1 _ I1 q1) fun u s2 ⟨x, H2, I2, rx, q2⟩ => thn (hi pins s2 σ H2 _ I2 q2) fun iv s3 ⟨y, H3, I3, ry, a, H4, ex, g, q3⟩ => ?_) hs
  subst ex
  obtain rfl : u = Value.ref a := rx
  exact d_setItem hu I3 g ry rv fun s4 I4 => ⟨σ, H4, I4, q3⟩
end


/-! ### displays -/
theorem dk_empty {P : Program} {w : World} {H : Hp} (h : Heap) (hb : sysModules < h.objs.size) : ObjOk P w H (h.push { cls := .type "dict", data := .dict #[] }) h.objs.size (.dK []) :=
  ⟨Nat.zero_le _, beq_eq_false_iff_ne.mpr (Ne.symm (Nat.ne_of_lt hb)), [], .nil, Heap.DictOf.new h⟩
section
variable {X : Cx} {pos : Pos}
end

/-- the pairs of a display, from the left -/
noncomputable def tPairs : List (TE × TE) → St → Hp → (List (V × V) → Hp → Prop) → Prop
  | [], _, H, Q => Q [] H
  | (tk, tv) :: r, σ, H, Q => tk σ H fun x H1 => tv σ H1 fun y H2 => tPairs r σ H2 fun ps H3 => Q ((x, y) :: ps) H3
noncomputable abbrev VV : List (V × V) → List (Value × Value) → Prop := Paired fun p q => RelV p.1 q.1 ∧ RelV p.2 q.2
noncomputable def PPs (X : Cx) (pos : Pos) (keys : List (Option Expr)) (values : List Expr) (trs : List (TE × TE)) : Prop :=
  ∀ (pins : List (Addr × Obj)) (s : Shared) (σ : St) (H : Hp) (Q : List (V × V) → Hp → Prop), Inv X pins σ H s → tPairs trs σ H Q →
    wpAny (model X.prog X.w) X.A (evalPairs (pairTrees keys values X.env pos)) (fun vs s' => ∃ ps H', Inv X pins σ H' s' ∧ VV ps vs ∧ Q ps H') X.xe s
theorem pps_nil {X : Cx} {pos : Pos} : PPs X pos [] [] [] := fun pins s σ H Q I h => pairTrees_nil_walk ⟨[], H, I, .nil, h⟩
theorem pps_cons {X : Cx} {pos : Pos} {k v : Expr} {ks : List (Option Expr)} {vs : List Expr} {tk tv : TE} {trs : List (TE × TE)} (hk : PE X k tk) (hv : PE X v tv) (hr : PPs X pos ks vs trs) :
    PPs X pos (some k :: ks) (v :: vs) ((tk, tv) :: trs) := fun pins s σ H Q I h =>
  pairTrees_cons_walk (thn (hk pins s σ H _ I h) fun u s1 ⟨x, H1, I1, rx, q1⟩ => thn (hv pins s1 σ H1 _ I1 q1) fun w2 s2 ⟨y, H2, I2, ry, q2⟩ =>
    thn (hr pins s2 σ H2 _ I2 q2) fun ws s3 ⟨ps, H3, I3, rel, q3⟩ => ⟨(x, y) :: ps, H3, I3, .cons ⟨rx, ry⟩ rel, q3⟩)

noncomputable def mergeK (kvs more : List (Key × V)) : List (Key × V) := more.foldl (fun acc kv => putK acc kv.1 kv.2) kvs
theorem KV.merge : ∀ {more : List (Key × V)} {rs : List (Key × Value)} {kvs : List (Key × V)} {vs : List (Key × Value)}, KV more rs → KV kvs vs → KV (mergeK kvs more) (merged vs rs) := by
  intro more rs kvs vs r
  unfold KV at r
  induction r generalizing kvs vs with
  | nil => intro q; exact q
  | @cons p q ps qs h t ih =>
    intro r0
    have e : KV (putK kvs p.1 p.2) (stored vs q.1 q.2) := by
      have := r0.put p.1 h.2
      rw [← h.1]; exact this
    exact ih e
theorem length_mergeK : ∀ (more kvs : List (Key × V)), (mergeK kvs more).length ≤ kvs.length + more.length
  | [], kvs => by show kvs.length ≤ kvs.length + 0; omega
  | p :: r, kvs => by
    have h1 := length_mergeK r (putK kvs p.1 p.2)
    have h2 := length_putK kvs p.1 p.2
    show (mergeK (putK kvs p.1 p.2) r).length ≤ _
    rw [List.length_cons]; omega
theorem carries_of {P : Program} {w : World} : ∀ {kvs : List (Key × V)} {ws : List (Value × Value)}, VV (kvs.map fun kv => (kV kv.1, kv.2)) ws → ∃ rs, Carries (mixKind P w) ws rs ∧ KV kvs rs
  | [], _, r => by rw [List.map_nil] at r; cases r; exact ⟨[], True.intro, .nil⟩
  | p :: kvs, _, r => by
    rw [List.map_cons] at r
    cases r with
    | @cons a b as bs h t =>
      obtain ⟨rs, c, q⟩ := carries_of (P := P) (w := w) t
      obtain ⟨b1, b2⟩ := b
      exact ⟨(p.1, b2) :: rs, ⟨kV_is h.1, rfl, c⟩, .cons ⟨rfl, h.2⟩ q⟩
/-- {k: v, ..} with keys ints and texts; the new dict stands empty while the pairs are made -/
noncomputable def tDisp (trs : List (TE × TE)) : TE := fun σ H Q => ∀ p, H p = none → tPairs trs σ (upd H p (.dK [])) fun ps H2 => H2 p = some (.dK []) ∧ ∃ kvs : List (Key × V), ps = kvs.map (fun kv => (kV kv.1, kv.2)) ∧ kvs.length ≤ 15 ∧ Q (.ref p) (upd H2 p (.dK (mergeK [] kvs)))
theorem pe_disp {X : Cx} {pos : Pos} {keys : List (Option Expr)} {values : List Expr} {trs : List (TE × TE)} (h : PPs X pos keys values trs) (hall : keys.all (·.isSome) = true) (hl : keys.length = values.length) (h0 : keys ≠ [])
    (h15 : keys.length ≤ 15) : PE X (.Dict keys values pos) (tDisp trs) := by
  intro pins s σ H Q I q
  have hn := I.hok.fresh (Nat.le_refl s.heap.objs.size)
  have I1 := I.laid (a := s.heap.objs.size) (o := .dK []) (h' := s.heap.push { cls := .type "dict", data := .dict #[] }) (t' := s.toks) (fun _ _ q => Heap.get?_push_of_some _ q) (Nat.le_refl _) (dk_empty s.heap I.big)
  refine wpAny_Dict_walk (knd := mixKind X.prog X.w) hall hl h0 h15 (thn (h pins _ σ _ _ I1 (q _ hn)) fun ws s2 ⟨ps, H2, I2, rel, e, kvs, ep, lk, q2⟩ => ?_)
  subst ep
  obtain ⟨rs, c, rk⟩ := carries_of (P := X.prog) (w := X.w) rel
  obtain ⟨z, hd, vs0, r0, dd⟩ := dk_of I2.hok e
  cases r0
  refine ⟨rs, c, dd, fun h' dd' hs => ⟨.ref s.heap.objs.size, _, ?_, rfl, q2⟩⟩
  have hz : (mergeK [] kvs).length ≤ sizeLine := by
    have h1 := length_mergeK kvs []
    rw [List.length_nil] at h1
    rw [sizeLine_eq]; omega
  have he : ∃ q, h'.get? s.heap.objs.size = some q := let ⟨q, _, _, hq, _⟩ := dd'; ⟨q, hq⟩
  exact d_write I2 (by rw [e]; exact True.intro) hs he (dk_new hz hd (rk.merge .nil) dd')


/-! ### methods -/


section
variable {X : Cx} {pins : List (Addr × Obj)} {σ : St} {H : Hp} {s : Shared} {a : Addr} {y d : V} {u r : Value} {o : Option V} {A : Around} {E : Value → Shared → Prop}
end

section
variable {X : Cx} {o e f : Expr} {apos cpos : Pos} {td ty tx : TE}
end

/-! ### dict(d): a copy -/
section
variable {X : Cx} {pins : List (Addr × Obj)} {σ : St} {H : Hp} {s : Shared} {a : Addr} {kvs : List (Key × V)} {A : Around} {E : Value → Shared → Prop}
end


section
variable {X : Cx} {pins : List (Addr × Obj)} {σ : St} {H : Hp} {s : Shared} {a : Addr} {y : V} {u : Value} {A : Around} {E : Value → Shared → Prop}
end
end L2

namespace Att
open PySem PySem.W PySem.Calls PyProof.Rows

/-! ### the script -/
theorem ints_of_wellAll {P : Params} {h : Heap} : ∀ (ns : List Int) (vs : List Value), WellAll P h vs (ns.map WData.int) → IntsAre vs ns := by
  intro ns
  induction ns with
  | nil =>
    intro vs w
    rw [List.map_nil] at w
    cases w
    exact .nil
  | cons n ns ih =>
    intro vs w
    rw [List.map_cons] at w
    cases w with
    | cons a b =>
      cases a
      exact .cons _ _ (ih _ b)

theorem script_of {l : OpenLaw} {n : Nat} (hn : l.most = some n) {P : Params} {h : Heap} {args : List WData} {vals : List Value}
    (hpre : l.row.toRowW.claim.pre args = true) (hwl : WellAll P h vals args) :
    ∃ a vs ns, vals = [Value.ref a] ∧ args = [WData.list (ns.map WData.int)] ∧ h.get? a = some { cls := .type "list", data := .seq vs.toArray } ∧ IntsAre vs ns ∧ ns.length ≤ n := by
  have hsh : WShape.hasAll [] args [.list .int] = true := (pre_splitW hpre).1
  have hc : l.pre.holds [] { args := args } = true := (pre_splitW hpre).2
  obtain ⟨d, r, rfl, h1, h2⟩ := hasAllW_cons hsh
  obtain rfl := hasAllW_nil h2
  obtain ⟨xs, rfl, h3⟩ := hasW_list h1
  obtain ⟨ns, rfl⟩ := items_int h3
  have hlen : ns.length ≤ n := by
    unfold OpenLaw.pre at hc
    have h4 : (WTm.not (.lt (.lit (.int (n : Int))) (.len (.arg 0)))).holds [] { args := [.list (ns.map .int)] } = true := by
      have h4 := (holds_andW hc).1
      rw [hn] at h4
      exact h4
    have h5 := condW_of h4 (w_not (w_lt w_lit (w_len_list (w_arg rfl))))
    rw [List.length_map] at h5
    refine Nat.le_of_not_lt fun q => ?_
    have q' : (n : Int) < ((ns.length : Nat) : Int) := by omega
    first
      | (rw [decide_eq_true q'] at h5; exact absurd h5 (by decide))
      | (simp at h5; omega)
  cases hwl with
  | cons w1 w2 =>
    cases w2
    cases w1 with
    | list ho hall => exact ⟨_, _, ns, rfl, rfl, ho, ints_of_wellAll ns _ hall, hlen⟩

theorem post_true (l : OpenLaw) (args : List WData) : l.row.toRowW.claim.post args (.bool true) args = true :=
  postW_of (r := l.row.toRowW) (X := (true == true))
    (show WShape.has [] (.bool true) .bool = true by first | rfl | decide | simp [WShape.has, WShape.arms, WShape.armsAll])
    (show (WTm.eq .res (.lit (.bool true))).value [] { args := args, res := some (.bool true), after := args } = some (.bool (true == true)) from w_eq_bool (w_res rfl) w_lit) rfl

/-! ### the attachment: holds_open's last premise (the goal 'hc' behind k_head) from a wpAny of the law's body -/

/-- the same from a codeAny of the CALL (for a layer whose function contracts speak of calls) -/
theorem attach_call {l : OpenLaw} {n : Nat} {q : Program} {loose : List Str} {XP : (Str → Option Value) → Heap → Prop} {YP : World → Heap → Prop} {d : DefRec}
    (hn : l.most = some n) (hdf : d.params.defaults = [])
    (call : ∀ (w : World) (s₀ s₁ : Shared) (mg mb : Str → Option Value) (fa : Addr) (o : Obj) (pm cd doc : Value) (a : Addr) (vs : List Value) (ns : List Int),
      Ground q loose [] XP w s₀ mg mb s₁.heap → YP w s₁.heap →
      s₁.heap.get? fa = some o → o.data = .func (docDef d.name d.params d.body d.scope pm cd doc) → s₁.heap.CodeRec cd d.name → mg d.name = some (.ref fa) →
      s₁.heap.get? a = some { cls := .type "list", data := .seq vs.toArray } → IntsAre vs ns → ns.length ≤ n → s₁.gens = #[] →
      codeAny (model l.prog w) callerA (.call (.ref fa) ⟨[.ref a], []⟩) (fun r s' => r = .ok (.ret (.bool true)) ∧ OldK s₁.heap s'.heap ∧ s'.os = s₁.os ∧ AllBare s'.gens) s₁) :
    WalkO q loose XP YP l.row.toRowW d [] (fun f vs => PySem.call f vs) := by
  intro w s₀ s₁ mg mb G Y fa o pm cd doc dV kV ho hd hcd hD hmg hg args vals as hpre hlay hrd hwl hlo
  obtain rfl : dV = .none := Dflts.none hD hdf
  obtain rfl : kV = .none := Dflts.noKw hD
  obtain ⟨a, vs, ns, rfl, rfl, hobj, hints, hlen⟩ := script_of hn hpre hwl
  refine enter_call (codeAny_mono (call w s₀ s₁ mg mb fa o pm cd doc a vs ns G Y ho (fd_plain hd) hcd hmg hobj hints hlen hg) fun r s' hq => ?_)
  obtain ⟨rfl, h2, h3, h4⟩ := hq
  exact ⟨.inl ⟨.bool true, .bool true, [], rfl, fun _ => rfl, .bool true, post_true l _, fun _ => ⟨List.Pairwise.nil, fun _ hm => (nomatch hm)⟩⟩, h2, h3, h4⟩


/-! ### rules over ANY heap (no ledger) from facts about the written part K: the library's own take a ledger (News) for what they write -/
section
variable {prog : Program} {w : World} {A : Around} {E : Value → Shared → Prop} {s : Shared} {K : Frag}





/-! the whole heap as the ledger: makes every rule that writes through a ledger a rule over any heap -/

end
end Att

namespace L2
open PySem PySem.Spec PyProof.Rows

theorem vals_ints : ∀ {vs : List Value} {ns : List Int}, IntsAre vs ns → Vals (ns.map V.int) vs
  | _, _, .nil => .nil
  | _, _, .cons n t h => .cons ⟨t, rfl⟩ (vals_ints h)

/-- nothing is tracked but the script, known to the object (or it is an object of the module) -/
noncomputable def Only (H : Hp) : Prop := ∀ b, H b = none ∨ ∃ o xs, H b = some (.frz o (.lst xs))

/-- THE HEAD: the law's promise, at the heap behind the top. F, the promise of the law's def, may use that base is part of the heap (so K.In base, base.Ns mainGlobals mg stand in Mod) -/
theorem law_call {P : Program} {w : World} {K : PySem.W.Frag} {mg mb : Str → Option Value} {CX : CXT} {k : Nat} {fa a : Addr} {fd : FuncData} {x : Str} {sp : Sp} {s₁ : Shared} {vs : List Value} {ns : List Int}
    (KX : K.In s₁.heap) (hns : s₁.heap.Ns mainGlobals mg) (hb : s₁.heap.Ns builtinsNs mb) (hbb : ∀ x : Str, x ≠ "__name__" → mb x = bootBuiltins x) (hlim : s₁.heap.NoLimit) (hg : s₁.gens = #[])
    (ha : s₁.heap.get? a = some { cls := .type "list", data := .seq vs.toArray }) (hi : IntsAre vs ns) (hl : ns.length ≤ sizeLine) (hr : Room k callerA)
    (F : ∀ base : Heap, K.In base → base.Ns mainGlobals mg → FnOk P w K mg base CX k fa fd [x] sp) (hbind : ∀ (s : Shared) (u : Value), BindsTo s fd ⟨[u], []⟩ [(x, u)])
    (hsp : ∀ H : Hp, Only H → SqL K H a (ns.map V.int) → sp [.ref a] H (fun v _ => v = .bl true) fun _ _ _ => False)
    (hCX : ∀ H e s', CX [] H s₁ (fun _ _ _ => False) e s' → False) :
    codeAny (model P w) callerA (.call (.ref fa) ⟨[.ref a], []⟩) (fun r s' => r = .ok (.ret (.bool true)) ∧ OldK s₁.heap s'.heap ∧ s'.os = s₁.os ∧ AllBare s'.gens) s₁ := by
  have rv := vals_ints hi
  have lenV := hi.length
  -- from an abstract heap in which nothing but the script may be tracked
  have core : ∀ H : Hp, Only H → SqL K H a (ns.map V.int) → HOk P w H s₁.heap → (∀ b, H b ≠ none → b = a) → (H a ≠ none → K.lookup a = none) →
      codeAny (model P w) callerA (.call (.ref fa) ⟨[.ref a], []⟩) (fun r s' => r = .ok (.ret (.bool true)) ∧ OldK s₁.heap s'.heap ∧ s'.os = s₁.os ∧ AllBare s'.gens) s₁ := by
    intro H hO hS hok hA hK
    have base_of : ∀ {b : Addr} {o : Obj}, s₁.heap.get? b = some o → H b = none → (hidT s₁.heap H).get? b = some o := fun e n => hidT_get e n
    have noA : ∀ {b : Addr} {o : Obj} {es : Array DictEntry} {ep : Nat}, s₁.heap.get? b = some o → o.data = .dict es ep → H b = none := fun {b o es ep} e d => by
      cases q : H b with
      | none => rfl
      | some u =>
        have e' : b = a := hA b (by rw [q]; simp)
        subst e'
        rw [ha] at e; cases e
        have d' : Data.seq vs.toArray _ = Data.dict es ep := d
        cases d'
    have nsK : ∀ {b : Addr} {m : Str → Option Value}, s₁.heap.Ns b m → (hidT s₁.heap H).Ns b m := fun {b m} ⟨o, es, ep, e, d, r⟩ => ⟨o, es, ep, base_of e (noA e d), d, r⟩
    have hKb : K.In (hidT s₁.heap H) := fun b o e => base_of (KX b o e) (by
      cases q : H b with
      | none => rfl
      | some u =>
        have e' : b = a := hA b (by rw [q]; simp)
        subst e'
        rw [hK (by rw [q]; simp)] at e; cases e)
    have hM : Mod K mg (hidT s₁.heap H) := ⟨hKb, nsK hns, ⟨mb, nsK hb, hbb⟩, let ⟨mc, h1, h2⟩ := hlim; ⟨mc, nsK h1, h2⟩⟩
    have e0 : Env0 P w K mg (hidT s₁.heap H) callerA [] s₁ H := ⟨rfl, hM, fun b o e => of_hidT e, Nat.le_of_eq (hidT_size _ _), trivial, fun b hb => absurd (show b ∈ ([] : List Addr) from hb) (by simp), hok, .of_eq hg⟩
    refine codeAny_mono ((F _ hKb (nsK hns)).run callerA [] s₁ H ⟨[.ref a], []⟩ [.ref a] [.ref a] _ _ hr e0 (hbind s₁ (.ref a)) (.cons rfl .nil) (hsp H hO hS)) fun r s' h => ?_
    cases r with
    | error e => exact (hCX H e s' h).elim
    | ok fl =>
      cases fl with
      | next => exact False.elim h
      | brk => exact False.elim h
      | cont => exact False.elim h
      | ret u =>
        obtain ⟨v, H', os, bare, un, hok', r', q⟩ := h
        have q' : v = .bl true := q
        subst q'
        obtain rfl : u = Value.bool true := r'
        refine ⟨rfl, OldK.of_keep fun b o e => ?_, os, bare⟩
        cases q : H b with
        | none => exact un.keep b o e q (by intro z; exact absurd (show b ∈ ([] : List Addr) from z) (by simp)) (by simp)
        | some u =>
          rcases hO b with z | ⟨ob, xs, z⟩
          · rw [q] at z; cases z
          · have z2 := un.frzs b ob _ z
            obtain ⟨e1, _⟩ := hok b _ z
            obtain ⟨e2, _⟩ := hok' b _ z2
            rw [e] at e1; cases e1
            exact e2
  cases hk : K.lookup a with
  | some o =>
    -- the script is one of the module's own objects
    have e := KX a o hk
    rw [ha] at e
    cases e
    refine core (fun _ => none) (fun _ => .inl rfl) (.inr ⟨_, vs.toArray, _, hk, rfl, rfl, rfl, by rw [List.size_toArray, lenV]; exact hl, by simpa using rv⟩) (fun b u z => by have z' : (none : Option HO) = some u := z; cases z') (fun b z => absurd rfl z) fun z => absurd rfl z
  | none =>
    refine core (fun b => if b = a then some (.frz { cls := .type "list", data := .seq vs.toArray } (.lst (ns.map V.int))) else none) (fun b => ?_) (.inl (.inr ⟨{ cls := .type "list", data := .seq vs.toArray }, if_pos rfl⟩)) (fun b u z => ?_) (fun b z => ?_) fun _ => hk
    · by_cases hb : b = a
      · exact .inr ⟨_, _, if_pos hb⟩
      · exact .inl (if_neg hb)
    · by_cases hb : b = a
      · have z' := (if_pos hb).symm.trans z
        cases z'
        subst hb
        exact ⟨ha, by rw [List.length_map]; exact hl, vs, _, rv, ha⟩
      · have z' := (if_neg hb).symm.trans z
        cases z'
    · by_cases hb : b = a
      · exact hb
      · exact absurd (if_neg hb) z
end L2

namespace L2
open PySem PySem.Spec PyProof.Rows


/-- the goal that k_head leaves (case hc), from the law's promise. F gives the function object fd (K's own) once, then the promise over every base -/
theorem walk_of {l : PySem.W.OpenLaw} {n k : Nat} {q : Program} {loose : List Str} {XP : (Str → Option Value) → Heap → Prop} {YP : World → Heap → Prop} {d : DefRec} {K : Params → PySem.W.Frag} {CX : World → CXT} {sp : World → Sp} {x : Str}
    (hn : l.most = some n) (hn2 : n ≤ sizeLine) (hdf : d.params.defaults = []) (hr : Room k callerA)
    (hY : ∀ (w : World) (h : Heap), YP w h → (K w.params).In h)
    (F : ∀ (w : World) (mg : Str → Option Value) (fa : Addr) (h : Heap), (K w.params).In h → h.Ns mainGlobals mg → mg d.name = some (.ref fa) →
      ∃ fd : FuncData, (∀ (s : Shared) (u : Value), BindsTo s fd ⟨[u], []⟩ [(x, u)]) ∧
        ∀ base : Heap, (K w.params).In base → base.Ns mainGlobals mg → FnOk l.prog w (K w.params) mg base (CX w) k fa fd [x] (sp w))
    (hsp : ∀ (w : World) (H : Hp) (a : Addr) (ns : List Int), ns.length ≤ n → Only H → SqL (K w.params) H a (ns.map V.int) → sp w [.ref a] H (fun v _ => v = .bl true) fun _ _ _ => False)
    (hCX : ∀ (w : World) (H : Hp) (s : Shared) (e : Value) (s' : Shared), CX w [] H s (fun _ _ _ => False) e s' → False) :
    PySem.W.WalkO q loose XP YP l.row.toRowW d [] (fun f vs => PySem.call f vs) := by
  refine Att.attach_call hn hdf fun w s₀ s₁ mg mb fa o pm cd doc a vs ns G Y ho hd hcd hmg hobj hints hlen hg => ?_
  have KX := hY w _ Y
  obtain ⟨fd, hb, hF⟩ := F w mg fa _ KX G.T.g hmg
  exact law_call KX G.T.g G.T.b G.T.builtins G.T.nolimit hg hobj hints (Nat.le_trans hlen hn2) hr hF hb (fun H hO hS => hsp w H a ns hlen hO hS) fun H e s' => hCX w H s₁ e s'
end L2

/- THE LAST THEOREM (shape; LID, My.* are yours):
   My.Adr: a structure of the addresses that your layer names (classes, functions); My.Txt K t: a structure (Prop) of the equations over K;
   My.txt_mk : {K} {implicit addresses ..} (e1 : nsIn K mainGlobals "law" = some (some (.ref f))) (e2 : K.lookup f = some ⟨oc, od, .func (fnOf "law" "law" params body scope dV kV doc pm an cdv ct), sl⟩) (e3 : codeIn K cdv "law" = true) .. : ∃ t, My.Txt K t

theorem PySem.Challenge.cw_LID_holds : PySem.Challenge.rw_LID.Holds := by
  w_on; o_law; k_head; (case hw => w_witness2)
  k_fill
  refine L2.walk_of (l := PySem.Challenge.rw_LID) (n := 63) (k := 40) (x := "script") (CX := fun w => ..) (sp := fun _ => My.sp_law) rfl (by decide) rfl ⟨rfl, by decide, by decide⟩ (fun w h Y => PySem.W.kIn_of Y) ?F ?S ?C
  case F =>
    intro w mg fa h KX G hmg
    have T : ∃ t, My.Txt (L2.KOf KX) t := by
      dsimp only [L2.KOf]                          -- K must stand as «<heap const> w.params» for k_is
      refine' My.txt_mk ?e1 ?e2 ?e3 ..
      (case e1 => PySem.W.k_is)                    -- in the order: a name -> its address -> its object -> its parts
      (case e2 => PySem.W.k_is)
      ..
    obtain ⟨t, T⟩ := T
    have e0 := hmg.symm.trans (PySem.W.mg_of KX G T.law)
    cases e0                                       -- fa is the law's own address
    exact ⟨_, fun s u => .of_eq rfl, fun base kb nb => My.law_fn T kb nb⟩     -- if «.of_eq rfl» comes too early: refine' ⟨_, ?b, fun base kb nb => My.law_fn T kb nb⟩; exact fun s u => .of_eq rfl
  case S => exact fun w H a ns hl hO hS => ..
  case C => exact ..
(the tactic k_is has no namespace: write k_is) -/

/-! SHORT WORDS over the layer: a def of the text, its body, what a loop and a test want. -/
namespace L2
open PySem PySem.Spec PyProof.Rows

/-! ### the text by places -/
noncomputable def defArgs (s : Stmt) : Arguments := match s with
  | .FunctionDef _ a _ _ _ _ _ _ _ _ => a
  | _ => { posonlyargs := [], args := [], vararg := none, kwonlyargs := [], kw_defaults := [], kwarg := none, defaults := [] }
noncomputable def defBody (s : Stmt) : List Stmt := match s with
  | .FunctionDef _ _ b _ _ _ _ _ _ _ => b
  | _ => []
noncomputable def defScope (s : Stmt) : Scope := match s with
  | .FunctionDef _ _ _ _ _ _ sc _ _ _ => sc
  | _ => { kind := .function, names := [], isGenerator := false, isCoroutine := false }

/-! ### no exception leaves a def -/
noncomputable abbrev CX0 : CXT := fun _ _ _ _ _ _ => False
noncomputable abbrev E0 : XK := fun _ _ _ => False
theorem pass0 {X : Cx} : Passes CX0 X E0 := fun _ _ _ _ _ _ _ h => h.elim

/-! ### a def (or method) of the text as it stands behind the top -/
structure Fun (K : PySem.W.Frag) (x qual : Str) (st : Stmt) (f : Addr) (fd : FuncData) : Prop where
  ex : ∃ (oc : Value) (od : Option Addr) (kV doc pm : Value) (an : Option Addr) (cdv ct : Value) (osl : Array (Option Value)),
    fd = PySem.W.fnOf x qual (defArgs st) (defBody st) (defScope st) .none kV doc pm an cdv ct ∧ K.lookup f = some ⟨oc, od, .func fd, osl⟩ ∧ PySem.W.codeIn K cdv qual = true
  kp : PySem.W.keepIn K (.ref f) = true
section
variable {P : Program} {w : World} {K : PySem.W.Frag} {mg : Str → Option Value} {base : Heap}
/-- THE RULE for a def: its body as a term of rules, and the reading of that term -/
theorem Fun.ok {x qual : Str} {st : Stmt} {f : Addr} {fd : FuncData} {N ps : List Str} {k : Nat} {sp : Sp} (F : Fun K x qual st f fd) (S : FnScope N ps (defScope st)) (len : ∀ vs H Q E, sp vs H Q E → vs.length = ps.length)
    (hbody : ∀ (cdv : Value) (A : Around) (outer : List Env) (s : Shared) (H : Hp) (vs : List V) (Q : VK) (E : XK), Room k (A.deeper (envOfC qual (defScope st) s.heap.objs.size f cdv)) → sp vs H Q E →
      ∃ t, PSs (cxOf CX0 P w K mg base N qual (defScope st) f cdv A outer s H E).nox (defBody st) t ∧ t { nx := fun _ H' => Q .non H', rt := Q } (start N vs) H) : FnOk P w K mg base CX0 (k + 1) f fd ps sp := by
  obtain ⟨oc, od, kV, doc, pm, an, cdv, ct, osl, rfl, lk, hcd⟩ := F.ex
  refine fn_of lk hcd S len fun A outer s H vs Q E hr hsp => ?_
  obtain ⟨t, h, q⟩ := hbody cdv A outer s H vs Q E hr hsp
  exact ⟨t, h.nox, q⟩
theorem fun_mk {x qual : Str} {st : Stmt} {f : Addr} {oc : Value} {od an : Option Addr} {osl : Array (Option Value)} {kV doc pm cdv ct : Value} (l : K.lookup f = some ⟨oc, od, .func (PySem.W.fnOf x qual (defArgs st) (defBody st) (defScope st) .none kV doc pm an cdv ct), osl⟩)
    (c : PySem.W.codeIn K cdv qual = true) (k : PySem.W.keepIn K (.ref f) = true) : Fun K x qual st f (PySem.W.fnOf x qual (defArgs st) (defBody st) (defScope st) .none kV doc pm an cdv ct) := ⟨⟨oc, od, kV, doc, pm, an, cdv, ct, osl, rfl, l, c⟩, k⟩
end
theorem hu_of {A : Around} {k : Nat} (hr : Room k A) : A.units + 1 < cLine := Nat.lt_of_le_of_lt (Nat.add_le_add_left (by decide : 1 ≤ 64) _) hr.units
theorem small1000 {n : Nat} (h : n ≤ 1000) : n < sizeLine := Nat.lt_of_le_of_lt h (by decide)

/-! ### expressions in short: the name that stands in the i-th slot -/
section
variable {X : Cx}
end

/-! ### tests -/
theorem ite2 {c A B : Prop} [Decidable c] (h1 : c → A) (h2 : ¬ c → B) : if c then A else B := by
  by_cases h : c
  · rw [if_pos h]
    exact h1 h
  · rw [if_neg h]
    exact h2 h

/-! ### heaps -/
/-- all that was tracked is as it was -/
noncomputable def Same (H H' : Hp) : Prop := ∀ b o, H b = some o → H' b = some o
theorem Same.refl (H : Hp) : Same H H := fun _ _ h => h
theorem Same.trans {H H1 H2 : Hp} (a : Same H H1) (b : Same H1 H2) : Same H H2 := fun c o h => b c o (a c o h)
theorem Same.free {H H' : Hp} (e : Same H H') {l : Addr} (h : H' l = Option.none) : H l = Option.none := by
  cases q : H l with
  | none => rfl
  | some o =>
    rw [e l o q] at h
    cases h

/-! ### a dict's pairs: keys that differ -/
section
variable {κ : Type} [DecidableEq κ]
end
end L2


set_option maxRecDepth 100000
namespace L2
open PySem PySem.Spec PyProof.Rows

/-! ### list comprehensions with one clause -/
/-- the cells that a comprehension's block is handed -/
noncomputable def ccl (sc : Scope) (env : Env) : List (Str × Addr) := (sc.names.filterMap fun p => if p.2 == .free then (env.cells.lookup p.1).map fun c => (p.1, c) else none).reverse

theorem forIn_cells {env : Env} : ∀ (l : List (Str × NameKind)) (acc : List (Str × Addr)), (∀ p ∈ l, p.2 = .free → ∃ c, env.cells.lookup p.1 = some c) →
    (forIn l acc fun (x : Str × NameKind) r => match x with | (name, kind) => (if (kind == NameKind.free) = true then do let a ← cellOf env name; pure (ForInStep.yield ((name, a) :: r)) else pure (ForInStep.yield r) : Sem _)) =
      pure ((l.filterMap fun p => if p.2 == .free then (env.cells.lookup p.1).map fun c => (p.1, c) else none).reverse ++ acc)
  | [], acc, _ => rfl
  | (n, k) :: r, acc, h => by
    rw [List.forIn_cons]
    have hr : ∀ p ∈ r, p.2 = .free → ∃ c, env.cells.lookup p.1 = some c := fun p hp => h p (List.mem_cons_of_mem _ hp)
    by_cases hk : k = .free
    · subst hk
      obtain ⟨c, hc⟩ := h (n, .free) List.mem_cons_self rfl
      have e1 : cellOf env n = pure c := by unfold cellOf; rw [hc]
      simp only [beq_self_eq_true, if_true, e1, pure_bind]
      rw [forIn_cells r _ hr]
      simp [List.filterMap_cons, hc]
    · have hb : (k == NameKind.free) = false := by simpa using hk
      simp only [hb, Bool.false_eq_true, if_false, pure_bind]
      rw [forIn_cells r _ hr]
      simp [List.filterMap_cons, hk]
theorem closure_ccl {sc : Scope} {env : Env} (h : ∀ p ∈ sc.names, p.2 = .free → ∃ c, env.cells.lookup p.1 = some c) : closureFor sc env = pure (ccl sc env) := by
  unfold closureFor
  have q := forIn_cells (env := env) sc.names [] h
  rw [List.append_nil] at q
  unfold ccl
  rw [← q, bind_pure]

theorem lookup_revmap {f : Str → Option Addr} : ∀ (l : List (Str × NameKind)) (x : Str) (c : Addr),
    (l.filterMap fun p => if p.2 == .free then (f p.1).map fun c => (p.1, c) else none).reverse.lookup x = some c → f x = some c := by
  intro l x c h
  have hm := PySem.mem_of_lookup h
  rw [List.mem_reverse, List.mem_filterMap] at hm
  obtain ⟨p, _, e⟩ := hm
  split at e
  · cases q : f p.1 with
    | none => rw [q] at e; cases e
    | some d =>
      rw [q] at e
      simp only [Option.map_some, Option.some.injEq, Prod.mk.injEq] at e
      obtain ⟨e1, e2⟩ := e
      rw [← e1, q, e2]
  · cases e
theorem lookup_some_of_mem {β : Type} : ∀ {l : List (Str × β)} {x : Str} {c : β}, (x, c) ∈ l → ∃ d, l.lookup x = some d
  | [], _, _, h => nomatch h
  | (n, d) :: r, x, c, h => by
    by_cases e : x = n
    · subst e; exact ⟨d, by simp [List.lookup_cons]⟩
    · have hb : (x == n) = false := by simpa using e
      rcases List.mem_cons.mp h with q | q
      · cases q; exact absurd rfl e
      · obtain ⟨d', hd⟩ := lookup_some_of_mem q
        exact ⟨d', by simp [List.lookup_cons, hb, hd]⟩
theorem ccl_sub {sc : Scope} {env : Env} {x : Str} {c : Addr} (h : (ccl sc env).lookup x = some c) : env.cells.lookup x = some c := lookup_revmap (f := fun n => env.cells.lookup n) sc.names x c h
theorem ccl_has {sc : Scope} {env : Env} {x : Str} {c : Addr} (hx : (x, NameKind.free) ∈ sc.names) (hc : env.cells.lookup x = some c) : (ccl sc env).lookup x = some c := by
  have hm : (x, c) ∈ ccl sc env := by
    unfold ccl
    rw [List.mem_reverse, List.mem_filterMap]
    exact ⟨(x, .free), hx, by simp [hc]⟩
  obtain ⟨d, hd⟩ := lookup_some_of_mem hm
  have := ccl_sub hd
  rw [hc] at this
  rw [hd, this]

theorem relabel_cases {env : Env} : ∀ {names : List (Str × NameKind)} {x : Str} {k : NameKind},
    (names.map fun (n, k) => if (k == NameKind.free && env.scope.kind == .function && env.kindOf n == some .cell) then (n, NameKind.cell) else (n, k)).lookup x = some k →
    names.lookup x = some k ∨ (k = .cell ∧ names.lookup x = some .free)
  | [], _, _, h => by simp at h
  | (n, q) :: r, x, k, h => by
    have ih := @relabel_cases env r x k
    rw [List.map_cons] at h
    cases hx : x == n with
    | true =>
      by_cases hc : (q == NameKind.free && env.scope.kind == .function && env.kindOf n == some .cell) = true
      · simp only [hc, if_true, List.lookup_cons, hx, Option.some.injEq] at h
        have hq : q = .free := by
          have := (Bool.and_eq_true _ _ ▸ (Bool.and_eq_true _ _ ▸ hc).1).1
          simpa using this
        subst hq
        exact .inr ⟨h.symm, by simp [List.lookup_cons, hx]⟩
      · simp only [hc, if_false, List.lookup_cons, hx, Option.some.injEq, Bool.false_eq_true] at h
        subst h
        exact .inl (by simp [List.lookup_cons, hx])
    | false =>
      have h' : (r.map fun (n, k) => if (k == NameKind.free && env.scope.kind == .function && env.kindOf n == some .cell) then (n, NameKind.cell) else (n, k)).lookup x = some k := by
        by_cases hc : (q == NameKind.free && env.scope.kind == .function && env.kindOf n == some .cell) = true
        · simpa only [hc, if_true, List.lookup_cons, hx] using h
        · simpa only [hc, if_false, List.lookup_cons, hx, Bool.false_eq_true] using h
      rcases ih h' with z | ⟨z1, z2⟩
      · exact .inl (by simp [List.lookup_cons, hx, z])
      · exact .inr ⟨z1, by simp [List.lookup_cons, hx, z2]⟩
theorem relabel_free {env : Env} : ∀ {names : List (Str × NameKind)} {x : Str}, names.lookup x = some .free →
    (names.map fun (n, k) => if (k == NameKind.free && env.scope.kind == .function && env.kindOf n == some .cell) then (n, NameKind.cell) else (n, k)).lookup x = some .cell ∨
    (names.map fun (n, k) => if (k == NameKind.free && env.scope.kind == .function && env.kindOf n == some .cell) then (n, NameKind.cell) else (n, k)).lookup x = some .free
  | [], _, h => by simp at h
  | (n, q) :: r, x, h => by
    have ih := @relabel_free env r x
    rw [List.map_cons]
    cases hx : x == n with
    | true =>
      simp only [List.lookup_cons, hx, Option.some.injEq] at h
      subst h
      by_cases hc : (NameKind.free == NameKind.free && env.scope.kind == .function && env.kindOf n == some .cell) = true
      · exact .inl (by simp only [hc, if_true, List.lookup_cons, hx])
      · exact .inr (by simp only [hc, if_false, List.lookup_cons, hx, Bool.false_eq_true])
    | false =>
      simp only [List.lookup_cons, hx] at h
      by_cases hc : (q == NameKind.free && env.scope.kind == .function && env.kindOf n == some .cell) = true
      · simpa only [hc, if_true, List.lookup_cons, hx] using ih h
      · simpa only [hc, if_false, List.lookup_cons, hx, Bool.false_eq_true] using ih h

/-- the block's context -/
noncomputable def cxComp (X : Cx) (N : List Str) (sc : Scope) (pins : List (Addr × Obj)) (C : Addr) (s₀ : Shared) (H₀ : Hp) (fp : List Addr) : Cx :=
  { X with N := N, s₀ := s₀, H₀ := H₀, env := compEnvC sc (ccl sc X.env) C X.env, outer := X.stack, ex := fp, fn := fun _ => false, pn := X.pn ++ pins, xe := fun _ _ => False }

/-- the scope of a comprehension: n own names, then the free ones; fr: their places among the names around -/
structure CScope (X : Cx) (n : Nat) (fr : List Nat) (N : List Str) (sc : Scope) : Prop where
  kind : sc.kind = .function
  nocell : ∀ p ∈ sc.names, p.2 ≠ .cell
  own : ∀ p ∈ sc.names, p.2 = .local → sc.names.lookup p.1 = some .local
  out : ∀ p ∈ sc.names, p.2 = .free → X.env.kindOf p.1 = some .cell ∨ X.env.kindOf p.1 = some .free
  len : N.length = n + fr.length
  free : ∀ i x, N[n + i]? = some x → (x, NameKind.free) ∈ sc.names ∧ sc.names.lookup x = some .free ∧ ∃ j, fr[i]? = some j ∧ X.N[j]? = some x
/-- .. by what is written (CScope0) -/
noncomputable def CS0 (scX : Scope) (NX : List Str) (n : Nat) (fr : List Nat) (N : List Str) (sc : Scope) : Prop :=
  sc.kind = .function ∧ (∀ p ∈ sc.names, p.2 ≠ .cell) ∧ (∀ p ∈ sc.names, p.2 = .local → sc.names.lookup p.1 = some .local) ∧
  (∀ p ∈ sc.names, p.2 = .free → scX.names.lookup p.1 = some .cell ∨ scX.names.lookup p.1 = some .free) ∧ N.length = n + fr.length ∧
  (∀ x ∈ N.drop n, (x, NameKind.free) ∈ sc.names ∧ sc.names.lookup x = some .free) ∧ (N.drop n).map some = fr.map fun j => NX[j]?
instance {scX : Scope} {NX : List Str} {n : Nat} {fr : List Nat} {N : List Str} {sc : Scope} : Decidable (CS0 scX NX n fr N sc) := by unfold CS0; exact inferInstance
theorem cs_mk {X : Cx} {scX : Scope} {NX : List Str} {n : Nat} {fr : List Nat} {N : List Str} {sc : Scope} (h1 : X.env.scope = scX) (h2 : X.N = NX) (h : CS0 scX NX n fr N sc) : CScope X n fr N sc := by
  obtain ⟨a, b, c, d, e, f, g⟩ := h
  refine ⟨a, b, c, fun p hp z => ?_, e, fun i x hx => ?_⟩
  · have q := d p hp z
    rw [← h1] at q
    exact q
  · have hd : (N.drop n)[i]? = some x := by rw [List.getElem?_drop]; exact hx
    obtain ⟨f1, f2⟩ := f x (List.mem_of_getElem? hd)
    refine ⟨f1, f2, ?_⟩
    have q : ((N.drop n).map some)[i]? = some (some x) := by rw [List.getElem?_map, hd]; rfl
    rw [g, List.getElem?_map] at q
    cases z : fr[i]? with
    | none => rw [z] at q; cases q
    | some j =>
      rw [z] at q
      refine ⟨j, rfl, ?_⟩
      rw [h2]
      exact Option.some.inj q
noncomputable def cst (n : Nat) (fr : List Nat) (σ : St) : St := List.replicate n none ++ fr.map fun j => (σ[j]?).getD none

theorem closure_ok {X : Cx} {n : Nat} {fr : List Nat} {N : List Str} {sc : Scope} (S : CScope X n fr N sc) (ok : X.Ok) : closureFor sc X.env = pure (ccl sc X.env) :=
  closure_ccl fun p hp e => ok.has p.1 (S.out p hp e)

section
variable {X : Cx} {n : Nat} {fr : List Nat} {N : List Str} {sc : Scope} {pins : List (Addr × Obj)} {σ : St} {H : Hp} {s : Shared} {fp : List Addr} {h₁ : Heap} {tk : Nat}

theorem comp_start (S : CScope X n fr N sc) (I : Inv X pins σ H s) (hf : ∀ b ∈ fp, FpOk X pins H b) (hlt : ∀ b ∈ fp, b < s.heap.objs.size)
    (hn : h₁.Ns s.heap.objs.size (fun _ => none)) (hk : ∀ b o, s.heap.get? b = some o → h₁.get? b = some o) :
    Inv (cxComp X N sc pins s.heap.objs.size s H fp) [] (cst n fr σ) H { s with heap := h₁, toks := tk } := by
  have hsub : ∀ b ∈ frs X.stack, b ∈ X.env.locals :: X.fs := I.stkSub
  refine ⟨⟨I.ok.mod, ?_, I.ok.glob, I.ok.blt, Nat.le_refl _, fun x y c h1 h2 => ?_, fun x hx => ?_, fun x c z => (by cases z), I.ok.hd, I.ok.frames, .inl rfl, fun b hb => ⟨?_, fun x c e => ?_⟩, fun b o e => I.bs b o e, Nat.le_trans I.ok.bsz I.sz, fun b o e hb => ?_, fun b hb hz => ?_, I.stack, I.stkFree⟩,
    rfl, I.bare, Un.kept hk, ⟨_, hn, fun i x v e1 e2 e3 => ?_⟩, fun x c e => ?_, I.hok.fresh (Nat.le_refl _), fun x c e => ?_, fun p hp => ?_, I.hok.kept hk, ?_⟩
  · exact S.kind
  · exact I.ok.inj x y c (ccl_sub h1) (ccl_sub h2)
  · have hx' : (relabel sc X.env).names.lookup x = some .cell ∨ (relabel sc X.env).names.lookup x = some .free := hx
    have fr' : sc.names.lookup x = some .free := by
      rcases hx' with z | z
      · rcases relabel_cases z with q | ⟨_, q⟩
        · exact absurd rfl (S.nocell _ (PySem.mem_of_lookup q))
        · exact q
      · rcases relabel_cases z with q | ⟨q, _⟩
        · exact q
        · cases q
    obtain ⟨c, hc⟩ := I.ok.has x (S.out _ (PySem.mem_of_lookup fr') rfl)
    exact ⟨c, ccl_has (PySem.mem_of_lookup fr') hc⟩
  · exact Nat.ne_of_lt (hlt b hb)
  · exact (hf b hb).2.2.2.2.1 x c (ccl_sub e)
  · rcases (hf b hb).2.2.2.1 with z | z
    · exact I.ok.noex b o e z
    · exact absurd (Nat.lt_of_lt_of_le (Heap.lt_size e) (Nat.le_trans I.ok.bsz z)) (Nat.lt_irrefl _)
  · rcases List.mem_cons.mp (hsub b hz) with z | z
    · exact (hf b hb).2.1 z
    · exact (hf b hb).2.2.1 z
  · have e1' : N[i]? = some x := e1
    have hi : n ≤ i := by
      apply Nat.le_of_not_lt
      intro hlt
      unfold cst at e2
      rw [List.getElem?_append_left (by simpa using hlt), List.getElem?_replicate] at e2
      split at e2 <;> cases e2
    obtain ⟨j, rfl⟩ : ∃ j, i = n + j := ⟨i - n, by omega⟩
    obtain ⟨hm, hl, q, hq, hX⟩ := S.free j x e1'
    have e2' : (σ[q]?).getD none = some v := by
      unfold cst at e2
      rw [List.getElem?_append_right (by simp)] at e2
      simp only [List.length_replicate, Nat.add_sub_cancel_left, List.getElem?_map, hq, Option.map_some, Option.some.injEq] at e2
      exact e2
    have hσ : σ[q]? = some (some v) := by
      cases z : σ[q]? with
      | none => rw [z] at e2'; cases e2'
      | some w => rw [z] at e2'; simp only [Option.getD_some] at e2'; rw [e2']
    have ko := S.out _ hm rfl
    have hv : Vis X.env.scope x := by
      rcases ko with z | z
      · exact .inr (.inl z)
      · exact .inr (.inr z)
    obtain ⟨m, _, hloc⟩ := I.loc
    obtain ⟨u, r, l⟩ := hloc q x v hX hσ hv
    refine ⟨u, r, .inr ⟨?_, ?_⟩⟩
    · exact relabel_free hl
    · rcases l with ⟨k, _⟩ | ⟨_, c, hc, hcell⟩
      · rcases ko with z | z <;> (rw [k] at z; cases z)
      · refine ⟨c, ccl_has hm hc, ?_⟩
        obtain ⟨o, ho, hd⟩ := hcell
        exact ⟨o, hk c o ho, hd⟩
  · obtain ⟨v, o, ho, hd⟩ := I.cell x c (ccl_sub e)
    exact ⟨v, o, hk c o ho, hd⟩
  · exact I.freeC x c (ccl_sub e)
  · have hp' : p ∈ X.pn ++ pins := by
      have z : p ∈ (X.pn ++ pins) ++ [] := hp
      rwa [List.append_nil] at z
    obtain ⟨e, hn', ne, nf, d⟩ := I.pin p hp'
    refine ⟨hk p.1 p.2 e, hn', Nat.ne_of_lt (Heap.lt_size e), fun hz => ?_, d⟩
    rcases List.mem_cons.mp (hsub p.1 hz) with z | z
    · exact ne z
    · exact nf z
  · show (cst n fr σ).length = N.length
    unfold cst
    rw [List.length_append, List.length_replicate, List.length_map, S.len]

/-- back from the block -/
theorem comp_back {C : Addr} {σ' : St} {H' : Hp} {s' : Shared} {pins' : List (Addr × Obj)} (I : Inv X pins σ H s) (hf : ∀ b ∈ fp, FpOk X pins H b) (J : Inv (cxComp X N sc pins C s H fp) pins' σ' H' s') : Inv X pins σ H' s' :=
  I.call' (ch := fp) J.os J.base J.hok J.bare fun b hb => ⟨(hf b hb).2.2.2.1, (hf b hb).2.1, (hf b hb).2.2.2.2.1, (hf b hb).2.2.2.2.2⟩
end

/-- the clause's tests -/
noncomputable def PIfs (X : Cx) (ifs : List Expr) (t : TT) : Prop :=
  ∀ (pins : List (Addr × Obj)) (s : Shared) (σ : St) (H : Hp) (Q : Bool → Hp → Prop), Inv X pins σ H s → t σ H Q →
    wpAny (model X.prog X.w) X.A (forIn ifs true fun c r => if r = true then do let ok ← isTrue c X.env (eval c X.env); pure (ForInStep.yield ok) else pure (ForInStep.yield r)) (TP X pins σ Q) X.xe s
noncomputable def tTrue : TT := fun _ H Q => Q true H
theorem pifs_nil {X : Cx} : PIfs X [] tTrue := fun _ _ _ H _ I h => wpAny_pure ⟨H, I, h⟩

/-- the turns of a comprehension that fills the list at D, from the names σ and the heap H on -/
noncomputable def CompW (J : It) (g : TG) (tc : TT) (te : TE) (D : Addr) (σ : St) (H : Hp) (Q : VK) : Prop :=
  ∃ W : Nat → Nat → St → Hp → Prop, (∃ m, W 0 m σ H) ∧ ∀ i m σ' H', W i m σ' H' →
    (J.stop i H' ∧ Q (.ref D) H') ∨ (J.go i H' ∧ ∃ N : St → Hp → Prop, (∀ σ3 H3, N σ3 H3 → ∃ m', m' < m ∧ W (i + 1) m' σ3 H3) ∧ ∀ x H2, J.yld i H' x H2 → g x σ' H2 fun σ3 H3 => tc σ3 H3 fun b H4 =>
      if b = true then te σ3 H4 fun y H5 => ∃ ys, H5 D = some (.lst ys) ∧ ys.length < sizeLine ∧ N σ3 (upd H5 D (.lst (ys ++ [y])))
      else N σ3 H4)
/-- a comprehension's reading -/
noncomputable def tComp (wi : TI) (n : Nat) (fr : List Nat) (g : TG) (tc : TT) (te : TE) : TE := fun σ H Q => wi σ H fun J H1 => ∀ D, H1 D = none → CompW J g tc te D (cst n fr σ) (upd H1 D (.lst [])) Q

section
variable {X : Cx} {n : Nat} {fr : List Nat} {N : List Str} {sc : Scope} {elt tg iter : Expr} {ifs : List Expr} {pos : Pos} {wi : TI} {g : TG} {tc : TT} {te : TE}

theorem comp_run {pins : List (Addr × Obj)} {σ : St} {H : Hp} {s : Shared} {fp : List Addr} {it : Addr} {tn : Nat → Heap → Prop} {J : It} {Q : VK} {E : Value → Shared → Prop} {RR : Value → Addr → Result → Shared → Prop}
    (hc : X.calm = true) (S : CScope X n fr N sc)
    (hg : ∀ C s₀ H₀ fp, PG (cxComp X N sc pins C s₀ H₀ fp) tg g) (hi : ∀ C s₀ H₀ fp, PIfs (cxComp X N sc pins C s₀ H₀ fp) ifs tc) (he : ∀ C s₀ H₀ fp, PE (cxComp X N sc pins C s₀ H₀ fp) elt te)
    (I : Inv X pins σ H s) (T : Turn X.prog X.w X.K tg J fp it tn) (st : tn 0 s.heap) (hf : ∀ b ∈ fp, FpOk X pins H b)
    (h : ∀ D, H D = none → CompW J g tc te D (cst n fr σ) (upd H D (.lst [])) Q)
    (hR : ∀ D C H' s', Inv X pins σ H' s' → FpOk X pins H' C → (∃ m, s'.heap.Ns C m) → Q (.ref D) H' → RR (.ref D) C (.ok .next) s') :
    wpAny (model X.prog X.w) X.A (newList []) (fun acc s₃ => wpAny (model X.prog X.w) X.A (newFunctionEnv sc X.env.globals (ccl sc X.env) [] X.env.qual none .none (some X.env)) (fun cenv s₄ =>
      codeAny (model X.prog X.w) X.A (.compStart (.ListComp elt [⟨tg, iter, ifs, 0⟩] sc pos) 0 (.ref it) acc { cenv with scope := relabel sc X.env }) (RR acc cenv.locals) s₄) E s₃) E s := by
  have hfree : H s.heap.objs.size = none := I.hok.fresh (Nat.le_refl _)
  have hltf : ∀ b ∈ fp, b < s.heap.objs.size := fun b hb => by
    obtain ⟨o, e, _⟩ := T.obj 0 s.heap st b hb
    exact Heap.lt_size e
  obtain ⟨W, ⟨m0, w0⟩, turn⟩ := h s.heap.objs.size hfree
  refine wpAny_newObj_type (wpAny_newFunctionEnv S.nocell (by intro y hy; simp at hy) (fun h₁ hns₁ hsb₁ => ?_) S.kind)
  dsimp only at hns₁ hsb₁ ⊢
  have I3 : Inv X pins σ (upd H s.heap.objs.size (.lst [])) { s with heap := s.heap.push { cls := .type "list", dict := none, data := .seq ([] : List Value).toArray } } :=
    I.laid (t' := s.toks) (fun b u e => Heap.get?_push_of_some _ e) (Nat.le_refl _) ⟨Nat.zero_le _, [], 0, .nil, Heap.get?_push_size _ rfl⟩
  have hf3 : ∀ b ∈ fp, FpOk X pins (upd H s.heap.objs.size (.lst [])) b := fun b hb => ⟨by rw [upd_ne (Nat.ne_of_lt (hltf b hb))]; exact (hf b hb).1, (hf b hb).2⟩
  generalize hs3 : ({ s with heap := s.heap.push { cls := .type "list", dict := none, data := .seq ([] : List Value).toArray } } : Shared) = s3 at *
  have e3 : s3.heap = s.heap.push { cls := .type "list", dict := none, data := .seq ([] : List Value).toArray } := by rw [← hs3]
  have et : s3.toks = s.toks := by rw [← hs3]
  have hlt3 : ∀ b ∈ fp, b < s3.heap.objs.size := fun b hb => by rw [e3, Heap.size_push]; exact Nat.lt_succ_of_lt (hltf b hb)
  have hk3 : ∀ b o, s3.heap.get? b = some o → h₁.get? b = some o := fun b o e => hsb₁.extBut b o (by rw [← e3]; exact Nat.ne_of_lt (Heap.lt_size e)) (by rw [← e3]; exact Heap.get?_push_of_some _ e)
  have hns3 : h₁.Ns s3.heap.objs.size (fun _ => none) := by rw [e3]; exact hns₁
  have I4 := comp_start (tk := s.toks + ([] : List (Str × Value)).length) S I3 hf3 hlt3 hns3 hk3
  have hDk : ∀ b o, s.heap.get? b = some o → h₁.get? b = some o := fun b o e => hk3 b o (by rw [e3]; exact Heap.get?_push_of_some _ e)
  have st4 : tn 0 h₁ := T.keep 0 s.heap h₁ st fun b hb o e => hDk b o e
  have hfX : ∀ {H' : Hp}, (∀ b ∈ fp, H' b = none) → ∀ b ∈ fp, FpOk (cxComp X N sc pins s3.heap.objs.size s3 (upd H s.heap.objs.size (.lst [])) fp) [] H' b := fun {H'} hn b hb => by
    refine ⟨hn b hb, Nat.ne_of_lt (hlt3 b hb), fun z => ?_, .inl hb, fun x c e => (hf3 b hb).2.2.2.2.1 x c (ccl_sub e), fun p hp => ?_⟩
    · rcases List.mem_cons.mp (I3.stkSub b z) with q | q
      · exact (hf3 b hb).2.1 q
      · exact (hf3 b hb).2.2.1 q
    · have hp' : p ∈ (X.pn ++ pins) ++ [] := hp
      rw [List.append_nil] at hp'
      exact (hf3 b hb).2.2.2.2.2 p hp'
  have loop : ∀ s₄ : Shared, s₄ = { s3 with heap := h₁, toks := s.toks + ([] : List (Str × Value)).length } →
      codeAny (model X.prog X.w) X.A (.compLoop (.ListComp elt [⟨tg, iter, ifs, 0⟩] sc pos) 0 (.ref it) (.ref s.heap.objs.size) (compEnvC sc (ccl sc X.env) s3.heap.objs.size X.env)) (RR (.ref s.heap.objs.size) s3.heap.objs.size) s₄ := by
    rintro s₄ rfl
    refine codeAny_loop rfl (fun k s' => ∃ i σ' H', Inv (cxComp X N sc pins s3.heap.objs.size s3 (upd H s.heap.objs.size (.lst [])) fp) [] σ' H' s' ∧ tn i s'.heap ∧ (∀ b ∈ fp, H' b = none) ∧ W i k σ' H') ?_ m0
      ⟨0, _, _, I4, st4, fun b hb => (hf3 b hb).1, w0⟩
    rintro k s5 ⟨i, σ5, H5, I5, st5, fr5, w5⟩
    show wpAny _ X.A ((compTurn (.ListComp elt [⟨tg, iter, ifs, 0⟩] sc pos) 0 (.ref it) (.ref s.heap.objs.size) (compEnvC sc (ccl sc X.env) s3.heap.objs.size X.env)).onRaise (fun x => do noteFrame x (compEnvC sc (ccl sc X.env) s3.heap.objs.size X.env); theTreesLotGoes x)) _ _ s5
    refine wpAny_noted ?_
    rw [compTurn_list]
    refine wpAny_bind (wpAny_standAt (wpAny_bind ?_))
    have nev : ∀ {α : Type} {t : Sem α} {Q₁ : α → Shared → Prop} {E₁ : Value → Shared → Prop} {s₁ : Shared}, wpAny (model X.prog X.w) X.A t Q₁ (fun _ _ => False) s₁ → wpAny (model X.prog X.w) X.A t Q₁ E₁ s₁ := fun h => wpAny_noRaise h
    rcases turn i k σ5 H5 w5 with ⟨stop, qn⟩ | ⟨go, Nn, hN, step⟩
    · refine nev (thn (T.done (cxComp X N sc pins s3.heap.objs.size s3 (upd H s.heap.objs.size (.lst [])) fp) rfl rfl rfl hc i [] s5 σ5 H5 (fun _ _ => False) I5 (hfX fr5) st5 stop) fun r s6 ⟨hr, I6⟩ => ?_)
      subst hr
      have B : Inv X pins σ H5 s6 := comp_back I3 hf3 I6
      refine wpAny_pure (hR _ _ H5 s6 B (I3.fpOk (Nat.le_refl _) I6.free) ?_ qn)
      obtain ⟨m, hm, _⟩ := I6.loc
      exact ⟨m, hm⟩
    · refine nev (thn (T.item (cxComp X N sc pins s3.heap.objs.size s3 (upd H s.heap.objs.size (.lst [])) fp) rfl rfl rfl hc i [] s5 σ5 H5 (fun _ _ => False) I5 (hfX fr5) st5 go) fun r s6 ⟨u, hr, h6⟩ => ?_)
      subst hr
      refine wpAny_bind (nev (thn h6 fun _ s7 ⟨x, H7, I7, r7, y7, st7, fr7⟩ => ?_))
      have I7' := I7.pinned (hfX fr7) (T.obj _ _ st7)
      refine wpAny_bind (nev (thn (hg _ _ _ _ _ s7 σ5 H7 x u _ I7' r7 (step x H7 y7)) fun _ s8 ⟨σ8, H8, I8, q8⟩ => ?_))
      refine wpAny_bind (nev (thn (hi _ _ _ _ _ s8 σ8 H8 _ I8 q8) fun b s9 ⟨H9, I9, q9⟩ => ?_))
      have fin : ∀ {s10 : Shared} {H10 : Hp} {m' : Nat}, m' < k → Inv (cxComp X N sc pins s3.heap.objs.size s3 (upd H s.heap.objs.size (.lst [])) fp) ([] ++ pinsAt fp s7.heap) σ8 H10 s10 → W (i + 1) m' σ8 H10 →
          ∃ m, m < k ∧ ∃ i σ' H', Inv (cxComp X N sc pins s3.heap.objs.size s3 (upd H s.heap.objs.size (.lst [])) fp) [] σ' H' s10 ∧ tn i s10.heap ∧ (∀ b ∈ fp, H' b = none) ∧ W i m σ' H' := fun {s10 H10 m'} hm I10 w10 => by
        refine ⟨m', hm, i + 1, σ8, H10, I10.unpinned, T.keep _ _ _ st7 fun b hb o e => (I10.pin (b, o) (List.mem_append_right _ (List.mem_append_right _ (mem_pinsAt hb e)))).1, fun b hb => ?_, w10⟩
        obtain ⟨o, e, d⟩ := T.obj _ _ st7 b hb
        exact (I10.pin (b, o) (List.mem_append_right _ (List.mem_append_right _ (mem_pinsAt hb e)))).2.1
      cases b with
      | false =>
        rw [if_neg Bool.false_ne_true] at q9
        obtain ⟨m', hm, w9⟩ := hN _ _ q9
        exact wpAny_pure ⟨rfl, fin hm I9 w9⟩
      | true =>
        rw [if_pos rfl] at q9
        refine wpAny_bind (wpAny_bind (nev (thn (he _ _ _ _ _ s9 σ8 H9 _ I9 q9) fun v s10 ⟨y, H10, I10, r10, q10⟩ => ?_)))
        obtain ⟨ys, hy, hz, n10⟩ := q10
        obtain ⟨m', hm, w10⟩ := hN _ _ n10
        refine wpAny_bind (nev (thn (mt_append _ s10 σ8 H10 (.ref s.heap.objs.size) [y] (.ref s.heap.objs.size) [v] (fun z H' => H' = upd H10 s.heap.objs.size (.lst (ys ++ [y]))) I10 rfl (.cons r10 .nil) ⟨_, ys, y, rfl, rfl, hy, hz, rfl⟩) fun z s11 ⟨_, H11, I11, _, e11⟩ => ?_))
        subst e11
        exact wpAny_pure (wpAny_pure ⟨rfl, fin hm I11 w10⟩)
  subst hs3
  exact codeAny_compStart_list (loop _ rfl) (T.self _ 0 _ _ _ st4 (loop _ rfl))

theorem pe_comp (hc : X.calm = true) (S : CScope X n fr N sc) (hit : PI X tg iter wi)
    (hg : ∀ pins C s₀ H₀ fp, PG (cxComp X N sc pins C s₀ H₀ fp) tg g) (hi : ∀ pins C s₀ H₀ fp, PIfs (cxComp X N sc pins C s₀ H₀ fp) ifs tc) (he : ∀ pins C s₀ H₀ fp, PE (cxComp X N sc pins C s₀ H₀ fp) elt te)
    (hs : ∀ x, foldedSetIterable iter X.env x = pure x := by intro _; rfl) : PE X (.ListComp elt [⟨tg, iter, ifs, 0⟩] sc pos) (tComp wi n fr g tc te) := by
  intro pins s σ H Q I h
  rw [eval_ListComp]
  refine wpAny_comprehension_free (use := none) rfl hs (closure_ok S I.ok) S.kind S.own ?_
  refine thn (hit pins s σ H _ I h) fun v s1 h1 => thn h1 fun itv s2 h2 => ?_
  obtain ⟨it, fp, tn, J, H2, e, I2, T, st2, f2, q2⟩ := h2
  subst e
  refine comp_run (RR := fun acc C => compPost (model X.prog X.w) X.A X.xe none (EP X pins σ Q) acc C) hc S (hg pins) (hi pins) (he pins) I2 T st2 f2 q2 fun D C H' s' I' fC hm q => ?_
  obtain ⟨m, hm⟩ := hm
  refine ⟨m, hm, fun h' hs' => ⟨.ref D, H', I'.turned (t' := s'.toks) (fun b o hb e => (hs'.2 b hb).trans e) fC.1 fC.2.1 fC.2.2.2.1 fC.2.2.2.2.1 fC.2.2.2.2.2, rfl, q⟩⟩

/-- name = [..] -/
theorem ps_setcomp {i : Nat} {x : Str} {pos' spos : Pos} (hc : X.calm = true) (hN : X.N.Nodup) (hi' : X.N[i]? = some x) (hx : Loc X.env.scope x) (S : CScope X n fr N sc) (hit : PI X tg iter wi)
    (hg : ∀ pins C s₀ H₀ fp, PG (cxComp X N sc pins C s₀ H₀ fp) tg g) (hi : ∀ pins C s₀ H₀ fp, PIfs (cxComp X N sc pins C s₀ H₀ fp) ifs tc) (he : ∀ pins C s₀ H₀ fp, PE (cxComp X N sc pins C s₀ H₀ fp) elt te)
    (hsw : swapsWith (.ListComp elt [⟨tg, iter, ifs, 0⟩] sc pos) (some (.Name x pos')) spos.line X.env = pure true)
    (hs : ∀ x, foldedSetIterable iter X.env x = pure x := by intro _; rfl) (hf : X.fn x = true ∨ X.env.scope.names.lookup x = some .local := by first | exact .inl rfl | exact .inr rfl | assumption) :
    PS X (.Assign [.Name x pos'] (.ListComp elt [⟨tg, iter, ifs, 0⟩] sc pos) spos) (tAsg (tComp wi n fr g tc te) (gName i)) := by
  intro pins s σ H D I h
  rw [exec_Assign_Name_used _ _ _ _ hsw]
  refine wpAny_bind (wpAny_standAt (wpAny_bind ?_))
  show wpAny _ X.A (do let _ ← comprehension (.ListComp elt [⟨tg, iter, ifs, 0⟩] sc pos) sc X.env _ (newList []) false (eval iter X.env) (some (assign (.Name x pos') X.env))) _ _ s
  refine wpAny_bind (wpAny_mono (wpAny_comprehension_free (use := some (assign (.Name x pos') X.env)) (Q := fun _ s' => SP X pins D .next s') rfl hs (closure_ok S I.ok) S.kind S.own ?_) (fun _ s' hq => wpAny_pure (wpAny_pure hq)) fun _ _ e => e)
  refine thn (hit pins s σ H _ I h) fun v s1 h1 => thn h1 fun itv s2 h2 => ?_
  obtain ⟨it, fp, tn, J, H2, e, I2, T, st2, f2, q2⟩ := h2
  subst e
  refine comp_run (Q := fun x H1 => gName i x σ H1 D.nx) (RR := fun acc C => compPost (model X.prog X.w) X.A X.xe (some (assign (.Name x pos') X.env)) (fun _ s' => SP X pins D .next s') acc C) hc S (hg pins) (hi pins) (he pins) I2 T st2 f2 q2 fun D' C H' s' I' fC hm q => ?_
  obtain ⟨m, hm⟩ := hm
  show wpAny _ X.A (assign (.Name x pos') X.env (.ref D')) _ _ _
  refine wpAny_assign_Name (store_ok2 I' hN hi' hx (v := .ref D') rfl (fun s'' I'' ch => ?_) hf)
  obtain ⟨a, hsb, ha⟩ := ch
  have hne : C ≠ a := by
    rcases ha with z | z
    · rw [z]; exact fC.2.1
    · exact fun z' => fC.2.2.2.2.1 x a z z'.symm
  exact ⟨m, hm.sameBut hsb hne, fun h' hs' => ⟨_, H', I''.turned (t' := s''.toks) (fun b o hb e => (hs'.2 b hb).trans e) fC.1 fC.2.1 fC.2.2.2.1 fC.2.2.2.2.1 fC.2.2.2.2.2, q⟩⟩
end

/-! ### the forms one uses -/
theorem comp_range {lo : Int} {n : Nat} {g : TG} {tc : TT} {te : TE} {σ : St} {H : Hp} {D : Addr} {Q : VK} (Pv : Nat → St → Hp → Prop) (h0 : Pv 0 σ (upd H D (.lst [])))
    (hs : ∀ i σ' H', i < n → Pv i σ' H' → g (.int (lo + i)) σ' H' fun σ3 H3 => tc σ3 H3 fun b H4 =>
      if b = true then te σ3 H4 fun y H5 => ∃ ys, H5 D = some (.lst ys) ∧ ys.length < sizeLine ∧ Pv (i + 1) σ3 (upd H5 D (.lst (ys ++ [y]))) else Pv (i + 1) σ3 H4) (hd : ∀ σ' H', Pv n σ' H' → Q (.ref D) H') :
    CompW (Itr lo n) g tc te D σ (upd H D (.lst [])) Q := by
  refine ⟨fun i m σ H => m = n - i ∧ i ≤ n ∧ Pv i σ H, ⟨n, by simp, Nat.zero_le _, h0⟩, ?_⟩
  rintro i m σ H ⟨rfl, hi, p⟩
  by_cases hlt : i < n
  · refine .inr ⟨hlt, Pv (i + 1), fun σ' H' p' => ⟨n - (i + 1), by omega, rfl, hlt, p'⟩, fun x H' y => ?_⟩
    obtain ⟨e, y⟩ := y
    subst e y
    exact hs i σ _ hlt p
  · have e : i = n := by omega
    subst e
    exact .inl ⟨Nat.le_refl _, hd σ H p⟩
theorem comp_tup {K : PySem.W.Frag} {a : Addr} {xs : List V} {g : TG} {tc : TT} {te : TE} {σ : St} {H : Hp} {D : Addr} {Q : VK} (Pv : Nat → St → Hp → Prop) (h0 : Pv 0 σ (upd H D (.lst []))) (hl : ∀ i σ H, i ≤ xs.length → Pv i σ H → SqT K H a xs)
    (hs : ∀ i x σ' H', xs[i]? = some x → Pv i σ' H' → g x σ' H' fun σ3 H3 => tc σ3 H3 fun b H4 =>
      if b = true then te σ3 H4 fun y H5 => ∃ ys, H5 D = some (.lst ys) ∧ ys.length < sizeLine ∧ Pv (i + 1) σ3 (upd H5 D (.lst (ys ++ [y]))) else Pv (i + 1) σ3 H4) (hd : ∀ σ' H', Pv xs.length σ' H' → Q (.ref D) H') :
    CompW (Itt K a) g tc te D σ (upd H D (.lst [])) Q := by
  refine ⟨fun i m σ H => m = xs.length - i ∧ i ≤ xs.length ∧ Pv i σ H, ⟨xs.length, by simp, Nat.zero_le _, h0⟩, ?_⟩
  rintro i m σ H ⟨rfl, hi, p⟩
  have q := hl i σ H hi p
  by_cases hlt : i < xs.length
  · refine .inr ⟨⟨xs, xs[i], q, by simp [hlt]⟩, Pv (i + 1), fun σ' H' p' => ⟨xs.length - (i + 1), by omega, rfl, hlt, p'⟩, fun x H' y => ?_⟩
    obtain ⟨e, y⟩ := y
    subst e
    exact hs i x σ _ (y xs q) p
  · have e : i = xs.length := by omega
    subst e
    exact .inl ⟨⟨xs, q, Nat.le_refl _⟩, hd σ H p⟩
theorem comp_list {K : PySem.W.Frag} {a : Addr} {xs : List V} {g : TG} {tc : TT} {te : TE} {σ : St} {H : Hp} {D : Addr} {Q : VK} (Pv : Nat → St → Hp → Prop) (h0 : Pv 0 σ (upd H D (.lst []))) (hl : ∀ i σ H, i ≤ xs.length → Pv i σ H → SqL K H a xs)
    (hs : ∀ i x σ' H', xs[i]? = some x → Pv i σ' H' → g x σ' H' fun σ3 H3 => tc σ3 H3 fun b H4 =>
      if b = true then te σ3 H4 fun y H5 => ∃ ys, H5 D = some (.lst ys) ∧ ys.length < sizeLine ∧ Pv (i + 1) σ3 (upd H5 D (.lst (ys ++ [y]))) else Pv (i + 1) σ3 H4) (hd : ∀ σ' H', Pv xs.length σ' H' → Q (.ref D) H') :
    CompW (Itl K a) g tc te D σ (upd H D (.lst [])) Q := by
  refine ⟨fun i m σ H => m = xs.length - i ∧ i ≤ xs.length ∧ Pv i σ H, ⟨xs.length, by simp, Nat.zero_le _, h0⟩, ?_⟩
  rintro i m σ H ⟨rfl, hi, p⟩
  have q := hl i σ H hi p
  by_cases hlt : i < xs.length
  · refine .inr ⟨⟨xs, xs[i], q, by simp [hlt]⟩, Pv (i + 1), fun σ' H' p' => ⟨xs.length - (i + 1), by omega, rfl, hlt, p'⟩, fun x H' y => ?_⟩
    obtain ⟨e, y⟩ := y
    subst e
    exact hs i x σ _ (y xs q) p
  · have e : i = xs.length := by omega
    subst e
    exact .inl ⟨⟨xs, q, Nat.le_refl _⟩, hd σ H p⟩
end L2
namespace L2
open PySem PySem.Spec PyProof.Rows
/-! ### names, by facts shown once -/
noncomputable def VarOk (sc : Scope) (x : Str) : Prop := Vis sc x ∧ (x == ("__debug__" : Str)) = false ∧ (x == ("__classdict__" : Str)) = false
instance {sc : Scope} {x : Str} : Decidable (VarOk sc x) := by unfold VarOk Vis; exact inferInstance
instance {sc : Scope} {x : Str} : Decidable (Loc sc x) := by unfold Loc; exact inferInstance
theorem pvx {X : Cx} (i : Nat) {x : Str} {pos : Pos} (v : VarOk X.env.scope x) (hN : X.N[i]? = some x := by rfl) : PE X (.Name x pos) (tVar i) := pe_var hN v.1 v.2.1 v.2.2
noncomputable def VarC (sc : Scope) (x : Str) : Prop := (sc.names.lookup x = some .local ∨ sc.names.lookup x = some .free) ∧ (x == ("__debug__" : Str)) = false ∧ (x == ("__classdict__" : Str)) = false
instance {sc : Scope} {x : Str} : Decidable (VarC sc x) := by unfold VarC; exact inferInstance
theorem VarC.ok {sc : Scope} {env : Env} {x : Str} (h : VarC sc x) : VarOk (relabel sc env) x := by
  obtain ⟨h1, h2⟩ := h
  refine ⟨?_, h2⟩
  rcases h1 with h1 | h1
  · exact .inl (lookup_relabel_local h1)
  · rcases relabel_free (env := env) h1 with z | z
    · exact .inr (.inl z)
    · exact .inr (.inr z)
theorem relabel_glob {env : Env} : ∀ {names : List (Str × NameKind)} {x : Str}, names.lookup x = some .globalImplicit →
    (names.map fun (n, k) => if (k == NameKind.free && env.scope.kind == .function && env.kindOf n == some .cell) then (n, NameKind.cell) else (n, k)).lookup x = some .globalImplicit
  | [], _, h => by simp at h
  | (n, q) :: r, x, h => by
    have ih := @relabel_glob env r x
    rw [List.map_cons]
    cases hx : x == n with
    | true =>
      simp only [List.lookup_cons, hx, Option.some.injEq] at h
      subst h
      simp [List.lookup_cons, hx]
    | false =>
      simp only [List.lookup_cons, hx] at h
      by_cases hc : (q == NameKind.free && env.scope.kind == .function && env.kindOf n == some .cell) = true
      · simpa only [hc, if_true, List.lookup_cons, hx] using ih h
      · simpa only [hc, if_false, List.lookup_cons, hx, Bool.false_eq_true] using ih h
theorem glC {X : Cx} {N : List Str} {sc : Scope} {pins : List (Addr × Obj)} {C : Addr} {s₀ : Shared} {H₀ : Hp} {fp : List Addr} {x : Str} (h : sc.names.lookup x = some .globalImplicit) : Gl (cxComp X N sc pins C s₀ H₀ fp) x := relabel_glob h
theorem pgx {X : Cx} {i : Nat} {x : Str} {pos : Pos} (hN : X.N.Nodup) (hx : X.env.scope.names.lookup x = some .local) (hi : X.N[i]? = some x := by rfl) : PG X (.Name x pos) (gName i) := pg_name hN hi (.inl hx) (.inr hx)
theorem locC {sc : Scope} {env : Env} {x : Str} (h : sc.names.lookup x = some .local) : (relabel sc env).names.lookup x = some .local := lookup_relabel_local h
end L2

set_option maxRecDepth 100000
namespace L2
open PySem PySem.Spec PyProof.Rows

/-! ### // by a positive divisor of any written size -/
noncomputable def CDivB (_ j : Int) : Prop := 0 < j ∧ j.natAbs.log2 < 9000
theorem op_fdivB {X : Cx} : OpR X (binaryOp .FloorDiv) (rI CDivB fun i j => .int (i / j)) := opI fun i j _ _ _ _ _ hc q => by
  have h1 : (0 : Int) < j := hc.1
  exact floordiv_int (by omega) (by rw [Int.fdiv_eq_ediv_of_nonneg i (by omega)]; exact q) (.inl (PyProof.noPylong_of_log2 hc.2))

/-! ### values as data, and == of them -/
mutual
inductive DatV (K : PySem.W.Frag) (H : Hp) : V → PyData → Prop where
  | non : DatV K H .non .none
  | bl (b : Bool) : DatV K H (.bl b) (.bool b)
  | int (i : Int) : DatV K H (.int i) (.int i)
  | str (x : Str) : DatV K H (.str x) (.str x)
  | lst {a : Addr} {xs : List V} {ds : List PyData} (h : SqL K H a xs) (r : DatVs K H xs ds) : DatV K H (.ref a) (.list ds)
  | tup {a : Addr} {xs : List V} {ds : List PyData} (h : SqT K H a xs) (r : DatVs K H xs ds) : DatV K H (.ref a) (.tuple ds)
inductive DatVs (K : PySem.W.Frag) (H : Hp) : List V → List PyData → Prop where
  | nil : DatVs K H [] []
  | cons {x : V} {d : PyData} {xs : List V} {ds : List PyData} (h : DatV K H x d) (r : DatVs K H xs ds) : DatVs K H (x :: xs) (d :: ds)
end
theorem datVs_strs {K : PySem.W.Frag} {H : Hp} : ∀ ns : List Str, DatVs K H (ns.map V.str) (ns.map PyData.str)
  | [] => .nil
  | n :: r => .cons (.str n) (datVs_strs r)

section
variable {X : Cx} {pins : List (Addr × Obj)} {σ : St} {H : Hp} {s : Shared}
mutual
theorem DatV.reads (I : Inv X pins σ H s) : ∀ {x : V} {d : PyData} {u : Value}, DatV X.K H x d → RelV x u → ∃ as, Reads s.heap u d as
  | _, _, _, .non, r => by cases (show _ = Value.none from r); exact ⟨_, .none⟩
  | _, _, _, .bl b, r => by cases (show _ = Value.bool b from r); exact ⟨_, .bool b⟩
  | _, _, _, .int i, r => by obtain ⟨t, rfl⟩ := r; exact ⟨_, .int i t⟩
  | _, _, _, .str x, r => by obtain ⟨t, rfl⟩ := r; exact ⟨_, .str x t⟩
  | _, _, _, .lst h q, r => by
    cases (show _ = Value.ref _ from r)
    obtain ⟨its, rv, ⟨o, n, e, c, _, d⟩, _⟩ := I.list h
    obtain ⟨as, hr⟩ := DatVs.reads I q rv
    exact ⟨_, .list e c d (by simpa using hr)⟩
  | _, _, _, .tup h q, r => by
    cases (show _ = Value.ref _ from r)
    obtain ⟨its, rv, ⟨o, e, c, n, d⟩, _⟩ := I.tuple h
    obtain ⟨as, hr⟩ := DatVs.reads I q rv
    exact ⟨_, .tuple e c d (by simpa using hr)⟩
theorem DatVs.reads (I : Inv X pins σ H s) : ∀ {xs : List V} {ds : List PyData} {us : List Value}, DatVs X.K H xs ds → Vals xs us → ∃ as, ReadsAll s.heap us ds as
  | _, _, _, .nil, .nil => ⟨_, .nil⟩
  | _, _, _, .cons h r, .cons q t => by
    obtain ⟨as, h1⟩ := DatV.reads I h q
    obtain ⟨bs, h2⟩ := DatVs.reads I r t
    exact ⟨_, .cons h1 h2⟩
end
end
noncomputable def rEqD (K : PySem.W.Frag) (neg : Bool) : R2 := fun x y H Q => ∃ d e, DatV K H x d ∧ DatV K H y e ∧ SeqAt.shaped d = true ∧ SeqAt.shaped e = true ∧ Q (.bl (if neg then !PyData.eqv d e else PyData.eqv d e)) H
theorem op_eqD {X : Cx} (hu : X.A.units + 64 < cLine) : OpR X (compareOp .Eq) (rEqD X.K false) := by
  intro pins s σ H x y v u Q I rx ry h
  obtain ⟨d, e, hd, he, sd, se, q⟩ := h
  obtain ⟨as, h1⟩ := hd.reads I rx
  obtain ⟨bs, h2⟩ := he.reads I ry
  exact eq_dataH h1 h2 sd se hu ⟨.bl _, H, I, rfl, q⟩
theorem op_neD {X : Cx} (hu : X.A.units + 64 < cLine) : OpR X (compareOp .NotEq) (rEqD X.K true) := by
  intro pins s σ H x y v u Q I rx ry h
  obtain ⟨d, e, hd, he, sd, se, q⟩ := h
  obtain ⟨as, h1⟩ := hd.reads I rx
  obtain ⟨bs, h2⟩ := he.reads I ry
  exact ne_dataH h1 h2 sd se hu ⟨.bl _, H, I, rfl, q⟩

/-! ### sep.join(texts) -/

/-! ### range(a, b, c) with a written c above 0 -/
noncomputable def Itr3 (lo c : Int) (n : Nat) : It := ⟨fun i _ => i < n, fun i H x H' => H' = H ∧ x = .int (lo + i * c), fun i _ => n ≤ i⟩
theorem turn_range3 {P : Program} {w : World} {K : PySem.W.Frag} {tg : Expr} (it : Addr) (lo c : Int) (n : Nat) : Turn P w K tg (Itr3 lo c n) [it] it (fun i h => IsRangeIter h it (lo + (i : Nat) * c) ((n : Int) - (i : Nat)) c) where
  mem := by simp
  obj := fun i h st b hb => by
    have e : b = it := by simpa using hb
    subst e
    exact ⟨_, st, fun v z => by
      have z' : Data.fields _ = Data.cell v := z
      cases z'⟩
  keep := fun i h h' st k => k it (by simp) _ st
  item := by
    intro X hP hw hK hc i pins s σ H E I hf st hg
    subst hP hw hK
    obtain ⟨f0, f1, f2, f3, f4, f5⟩ := hf it (by simp)
    have W := Walks.range (prog := X.prog) (w := X.w) (I.ok.hd hc) it lo c n
    refine W.item i s _ _ hg st fun v h' tk hv st' kk => ?_
    obtain ⟨t, rfl⟩ := hv
    have I1 : Inv X pins σ H { s with heap := h', toks := tk } := I.turned (fun b o hb e => kk b o (by simpa using hb) e) f0 f1 f3 f4 f5
    exact ⟨_, rfl, go_of (s := { s with heap := h', toks := tk }) (n := "range_iterator") st' rfl rfl (by decide) ⟨.int (lo + i * c), H, I1, ⟨t, rfl⟩, ⟨rfl, rfl⟩, st', fun b hb => (hf b hb).1⟩⟩
  done := by
    intro X hP hw hK hc i pins s σ H E I hf st hg
    subst hP hw hK
    obtain ⟨f0, f1, f2, f3, f4, f5⟩ := hf it (by simp)
    exact wpAny_pyNext_range_end (I.ok.hd hc) st (by have : n ≤ i := hg; omega) fun h' eb => ⟨rfl, I.turned (t' := s.toks) (fun b o hb e => eb b o hb e) f0 f1 f3 f4 f5⟩
  self := fun _ _ _ _ _ st h => wpAny_pyIter_rangeiter st h
noncomputable def rngN (i j c : Int) : Nat := (if i < j then (j - i - 1) / c + 1 else 0).toNat
theorem range_it3 {X : Cx} {tg : Expr} {pins : List (Addr × Obj)} {σ : St} {H : Hp} {s : Shared} {R : It → Hp → Prop} {E : Value → Shared → Prop} {lo hi c : Int} {t u v : Tok} {tk : Nat} (I : Inv X pins σ H s)
    (h1 : -(2 ^ 40) ≤ lo) (h2 : lo < 2 ^ 40) (h3 : -(2 ^ 40) ≤ hi) (h4 : hi < 2 ^ 40) (h5 : 0 < c) (h6 : c < 2 ^ 40)
    (q : R (Itr3 lo c (rngN lo hi c)) H) : wpAny (model X.prog X.w) X.A (pyIter (.ref s.heap.objs.size)) (PIE X pins σ tg R) E { s with heap := s.heap.push { cls := .type "range", data := .fields #[.int lo t, .int hi u, .int c v] }, toks := tk } := by
  have hd1 : lo < hi → 0 ≤ (hi - lo - 1) / c ∧ (hi - lo - 1) / c ≤ hi - lo - 1 := fun z => by
    constructor
    · exact Int.ediv_nonneg (by omega) (by omega)
    · exact Int.ediv_le_self _ (by omega)
  have small : Builtin.Range.small lo hi c = true := by
    unfold Builtin.Range.small Builtin.Range.rangeSize
    simp only [Builtin.Range.rangeFitsLong, Bool.and_eq_true, Bool.or_eq_true, decide_eq_true_eq, beq_iff_eq, show c > 0 from h5, if_true]
    split
    · rename_i z
      have := hd1 z
      omega
    · omega
  refine wpAny_pyIter_range (IsRange.new ..) small ?_
  have I1 : Inv X pins σ H { s with heap := s.heap.push { cls := .type "range", data := .fields #[.int lo t, .int hi u, .int c v] }, toks := tk } := I.kept fun b o e => Heap.get?_push_of_some _ e
  refine ⟨(s.heap.push { cls := .type "range", data := .fields #[.int lo t, .int hi u, .int c v] }).objs.size, [(s.heap.push { cls := .type "range", data := .fields #[.int lo t, .int hi u, .int c v] }).objs.size], _, _, H, rfl,
    I1.kept (t' := tk) fun b o e => Heap.get?_push_of_some _ e, turn_range3 _ lo c (rngN lo hi c), ?_, fun b hb => ?_, q⟩
  · have e1 : lo + ((0 : Nat) : Int) * c = lo := by simp
    have e2 : ((rngN lo hi c : Nat) : Int) - ((0 : Nat) : Int) = Builtin.Range.rangeSize lo hi c := by
      unfold rngN Builtin.Range.rangeSize
      rw [if_pos h5]
      split
      · rename_i z
        have := hd1 z
        omega
      · rfl
    show IsRangeIter _ _ (lo + ((0 : Nat) : Int) * c) (((rngN lo hi c : Nat) : Int) - ((0 : Nat) : Int)) c
    rw [e1, e2]
    exact Heap.get?_push_size _ rfl
  · have e : b = (s.heap.push { cls := .type "range", data := .fields #[.int lo t, .int hi u, .int c v] }).objs.size := by simpa using hb
    subst e
    exact I1.fpOk (Nat.le_refl _) (I1.hok.fresh (Nat.le_refl _))
theorem comp_range3 {lo c : Int} {n : Nat} {g : TG} {tc : TT} {te : TE} {σ : St} {H : Hp} {D : Addr} {Q : VK} (Pv : Nat → St → Hp → Prop) (h0 : Pv 0 σ (upd H D (.lst [])))
    (hs : ∀ i σ' H', i < n → Pv i σ' H' → g (.int (lo + i * c)) σ' H' fun σ3 H3 => tc σ3 H3 fun b H4 =>
      if b = true then te σ3 H4 fun y H5 => ∃ ys, H5 D = some (.lst ys) ∧ ys.length < sizeLine ∧ Pv (i + 1) σ3 (upd H5 D (.lst (ys ++ [y]))) else Pv (i + 1) σ3 H4) (hd : ∀ σ' H', Pv n σ' H' → Q (.ref D) H') :
    CompW (Itr3 lo c n) g tc te D σ (upd H D (.lst [])) Q := by
  refine ⟨fun i m σ H => m = n - i ∧ i ≤ n ∧ Pv i σ H, ⟨n, by simp, Nat.zero_le _, h0⟩, ?_⟩
  rintro i m σ H ⟨rfl, hi, p⟩
  by_cases hlt : i < n
  · refine .inr ⟨hlt, Pv (i + 1), fun σ' H' p' => ⟨n - (i + 1), by omega, rfl, hlt, p'⟩, fun x H' y => ?_⟩
    obtain ⟨e, y⟩ := y
    subst e y
    exact hs i σ _ hlt p
  · have e : i = n := by omega
    subst e
    exact .inl ⟨Nat.le_refl _, hd σ H p⟩
noncomputable def iRng3 (ta : TA) : TI := fun σ H R => ta σ H fun vs H1 => ∃ i j c : Int, vs = [.int i, .int j, .int c] ∧ (-(2 ^ 40) ≤ i ∧ i < 2 ^ 40 ∧ -(2 ^ 40) ≤ j ∧ j < 2 ^ 40 ∧ 0 < c ∧ c < 2 ^ 30) ∧ R (Itr3 i c (rngN i j c)) H1
theorem pi_range3 {X : Cx} {tg : Expr} {a b c : Expr} {ta : TA} {p pos : Pos} (hg : Gl X "range") (hm : X.mg "range" = none) (ha : PA X [a, b, c] ta)
    (hs : starEach [a, b, c] X.env = [(false, eval a X.env), (false, eval b X.env), (false, eval c X.env)] := by rfl) (hs2 : starEach [b, c] X.env = [(false, eval b X.env), (false, eval c X.env)] := by rfl) :
    PI X tg (.Call (.Name "range" p) [a, b, c] [] pos) (iRng3 ta) := by
  intro pins s σ H R I h
  refine Call_ (ld_blt I hg hm boot_range (PyProof.Rows.callWith_type1 (thn (ha pos pins s σ H _ I h) fun us s1 ⟨vs, H1, I1, r1, q1⟩ => ?_) (by rw [hs, hs2]) (by rw [hs2]; rfl)))
  obtain ⟨i, j, k, e, ⟨q1, q2, q3, q4, q5, q6⟩, q⟩ := q1
  subst e
  cases r1 with
  | cons r rr =>
    cases rr with
    | cons r' rr =>
      cases rr with
      | cons r'' rr =>
        cases rr
        obtain ⟨t, rfl⟩ := r
        obtain ⟨t', rfl⟩ := r'
        obtain ⟨t'', rfl⟩ := r''
        exact call_range_3 (by omega) (range_it3 I1 q1 q2 q3 q4 q5 (by omega) q) (.inl (PyProof.noPylong_small (by omega)))

/-! ### isinstance(x, T), T a built-in class -/
theorem call_isi {X : Cx} : CallR X (.builtin "isinstance") (fun xs H Q => ∃ x T t b, xs = [x, .ty T] ∧ TyOf X.K H x t ∧ PySem.W.kitOne X.K t (.type T) = some b ∧ Q (.bl b) H) := by
  intro pins s σ H xs us Q I r h
  obtain ⟨x, T, t, b, rfl, ty, e, q⟩ := h
  obtain ⟨u, v, rfl, r1, r2⟩ := Vals.two r
  cases (show v = Value.type T from r2)
  exact isinst_ok I r1 ty e fun tk => ⟨.bl b, H, I.tok tk, rfl, q⟩

/-! ### a dict of the module's top, keys texts -/
noncomputable def Tab (P : Program) (w : World) (K : PySem.W.Frag) (a : Addr) (D : List (Str × PyData)) : Prop := ∀ h : Heap, K.In h → StrTab P w h a (D.map fun p => (PyData.str p.1, p.2))
theorem tab_mk {P : Program} {w : World} {K : PySem.W.Frag} {a : Addr} {D : List (Str × PyData)} (e : PyProof.Rows.KTD.tabLook PyProof.Rows.KTD.flatLooks (fun b => K.lookup b) a D = true) (n : (D.map (·.1)).Nodup)
    (q : PyProof.Rows.KTD.hashesOf (fun b => K.lookup b) a = D.map fun p => (PySem.strKind P w).hash p.1) : Tab P w K a D := fun _ x => PySem.W.kt_tab_in P w x e n q
noncomputable def flatV? : PyData → Option V
  | .none => some .non
  | .bool b => some (.bl b)
  | .int i => some (.int i)
  | .str x => some (.str x)
  | _ => Option.none
theorem flat_rel {d : PyData} {v : V} {u : Value} (h : flatV? d = some v) (f : PyProof.V.Flat u d) : RelV v u := by
  cases d with
  | none => cases h; cases f {}; rfl
  | bool b => cases h; cases f {}; rfl
  | int i => cases h; exact f.int_inv
  | str x => cases h; exact f.str_inv
  | list _ => cases h
  | tuple _ => cases h
  | dict _ => cases h
noncomputable def rTab (a : Addr) (D : List (Str × PyData)) : R2 := fun x y H Q => ∃ k d v, x = .ref a ∧ y = .str k ∧ PySem.Spec.lookup (.str k) (D.map fun p => (PyData.str p.1, p.2)) = some d ∧ flatV? d = some v ∧ Q v H
theorem ix_tab {X : Cx} {a : Addr} {D : List (Str × PyData)} (T : Tab X.prog X.w X.K a D) : IxR X (rTab a D) := by
  intro value slice pins s σ H x y v u Q I rx ry h hs
  obtain ⟨k, d, z, rfl, rfl, hl, hf, q⟩ := h
  cases (show v = Value.ref a from rx)
  obtain ⟨t, rfl⟩ := ry
  obtain ⟨lo, kvs, hd, hfp⟩ := T _ I.kIn
  obtain ⟨w', hv, hfl⟩ := hfp.of_lookup PyProof.V.same_str hl
  refine subscriptTail_builtinR (x := w') hd.typeIs F.slot_dict_getitem.lookup ?_ hs
  exact wpAny_getItem_of (strKind_is X.prog X.w k t) hd.mapOf hv ⟨rfl, z, H, I.tok _, flat_rel hf hfl, q⟩
noncomputable def rInTab (a : Addr) (D : List (Str × PyData)) (neg : Bool) : R2 := fun x y H Q => ∃ k, x = .str k ∧ y = .ref a ∧ Q (.bl (if neg then !(PySem.Spec.lookup (.str k) (D.map fun p => (PyData.str p.1, p.2))).isSome else (PySem.Spec.lookup (.str k) (D.map fun p => (PyData.str p.1, p.2))).isSome)) H
theorem op_inTab {X : Cx} {a : Addr} {D : List (Str × PyData)} (T : Tab X.prog X.w X.K a D) : OpR X (compareOp .In) (rInTab a D false) := by
  intro pins s σ H x y v u Q I rx ry h
  obtain ⟨k, rfl, rfl, q⟩ := h
  cases (show u = Value.ref a from ry)
  obtain ⟨t, rfl⟩ := rx
  exact in_strTab (T _ I.kIn) ⟨.bl _, H, I.tok _, rfl, q⟩
theorem bt_len : bootBuiltins "len" = some (.builtin "len") := by decide +kernel
theorem bt_isinstance : bootBuiltins "isinstance" = some (.builtin "isinstance") := by decide +kernel
theorem bt_max : bootBuiltins "max" = some (.builtin "max") := by decide +kernel
theorem bt_min : bootBuiltins "min" = some (.builtin "min") := by decide +kernel
theorem bt_sum : bootBuiltins "sum" = some (.builtin "sum") := by decide +kernel
theorem bt_all : bootBuiltins "all" = some (.builtin "all") := by decide +kernel
theorem bt_int : bootBuiltins "int" = some (.type "int") := by decide +kernel
theorem bt_str : bootBuiltins "str" = some (.type "str") := by decide +kernel
theorem bt_bool : bootBuiltins "bool" = some (.type "bool") := by decide +kernel
theorem bt_list : bootBuiltins "list" = some (.type "list") := by decide +kernel
theorem bt_tuple : bootBuiltins "tuple" = some (.type "tuple") := by decide +kernel
theorem bt_set : bootBuiltins "set" = some (.type "set") := by decide +kernel
end L2

set_option maxRecDepth 100000
namespace L2
open PySem PySem.Spec PyProof.Rows
/-! ### the rules once more, their judgements as structures: the elaborator then looks at nothing else -/
structure QE (X : Cx) (e : Expr) (t : TE) : Prop where
  h : PE X e t
structure QT (X : Cx) (e : Expr) (t : TT) : Prop where
  h : PT X e t
structure QW (X : Cx) (e : Expr) (t : TT) : Prop where
  h : PW X e t
structure QA (X : Cx) (es : List Expr) (t : TA) : Prop where
  h : PA X es t
structure QS (X : Cx) (s : Stmt) (t : TS) : Prop where
  h : PS X s t
structure QSs (X : Cx) (s : List Stmt) (t : TS) : Prop where
  h : PSs X s t
structure QG (X : Cx) (e : Expr) (t : TG) : Prop where
  h : PG X e t
structure QGs (X : Cx) (es : List Expr) (t : TGs) : Prop where
  h : PGs X es t
structure QI (X : Cx) (tg e : Expr) (t : TI) : Prop where
  h : PI X tg e t
structure QO (X : Cx) (e : Option Expr) (t : TO) : Prop where
  h : PO X e t
structure QIfs (X : Cx) (es : List Expr) (t : TT) : Prop where
  h : PIfs X es t
structure QPs (X : Cx) (pos : Pos) (ks : List (Option Expr)) (vs : List Expr) (t : List (TE × TE)) : Prop where
  h : PPs X pos ks vs t
structure QOp (X : Cx) (f : Value → Value → Sem Value) (r : R2) : Prop where
  h : OpR X f r
structure QUn (X : Cx) (f : Value → Sem Value) (r : V → Hp → VK → Prop) : Prop where
  h : UnR X f r
structure QIx (X : Cx) (r : R2) : Prop where
  h : IxR X r
structure QSl (X : Cx) (r : V → Option Int → Option Int → Hp → VK → Prop) : Prop where
  h : SlR X r
structure QMt (X : Cx) (id : String) (r : V → List V → Hp → VK → Prop) : Prop where
  h : MtR X id r
structure QCall (X : Cx) (f : Value) (r : List V → Hp → VK → Prop) : Prop where
  h : CallR X f r
section
variable {X : Cx} {a b c e : Expr} {es : List Expr} {ta tb te : TE} {tA tB' : TT} {pos p : Pos} {x : Str}
theorem qe_var (i : Nat) (v : VarOk X.env.scope x) (hN : X.N[i]? = some x := by rfl) : QE X (.Name x pos) (tVar i) := ⟨pvx i v hN⟩
theorem qe_int {i j pos} : QE X (.Constant (.int i) j pos) (tC (.int i)) := ⟨pe_int⟩
theorem qe_bl {b j pos} : QE X (.Constant (.bool b) j pos) (tC (.bl b)) := ⟨pe_bl⟩
theorem qe_str {x j pos} : QE X (.Constant (.str x) j pos) (tC (.str x)) := ⟨pe_str⟩
theorem qe_glob {v : V} {u : Value} (hg : Gl X x) (hm : X.mg x = some u) (r : RelV v u) (hd : (x == ("__debug__" : Str)) = false) : QE X (.Name x pos) (tC v) := ⟨pe_glob hg hm r hd⟩
theorem qe_bltn {v : V} {u : Value} (hg : Gl X x) (hm : X.mg x = none) (hv : bootBuiltins x = some u) (r : RelV v u) (hn : x ≠ "__name__") (hd : (x == ("__debug__" : Str)) = false) : QE X (.Name x pos) (tC v) := ⟨pe_bltn hg hm hv r hn hd⟩
theorem qe_op {op : Operator} {r : R2} (ho : QOp X (binaryOp op) r) (ha : QE X a ta) (hb : QE X b tb) : QE X (.BinOp a op b pos) (tOp r ta tb) := ⟨pe_op ho.h ha.h hb.h⟩
theorem qe_un {op : UnaryOp} {r : V → Hp → VK → Prop} (ho : QUn X (unaryOp op) r) (ha : QE X a ta) : QE X (.UnaryOp op a pos) (tUn r ta) := ⟨pe_un ho.h ha.h⟩
theorem qe_cmp {op : CmpOp} {r : R2} (ho : QOp X (compareOp op) r) (ha : QE X a ta) (hb : QE X b tb) (hm : behindInMarks op b = false) : QE X (.Compare a [op] [b] pos) (tOp r ta tb) := ⟨pe_cmpR ho.h ha.h hb.h hm⟩
theorem qt_cmp {op : CmpOp} {r : R2} (ho : QOp X (compareOp op) r) (ha : QE X a ta) (hb : QE X b tb) (hm : behindInMarks op b = false) : QT X (.Compare a [op] [b] pos) (tTest (tOp r ta tb)) := ⟨pt_cmpR ho.h ha.h hb.h hm⟩
theorem qt_val (h : QE X e te) (he : ∀ whole, isTrue e X.env whole = (do let v ← whole; standAt e.pos; holding [v] (truthy v)) := by intro _; rfl) : QT X e (tB te) := ⟨pt_val h.h he⟩
theorem qt_truth (ha : QE X a ta) (he : ∀ whole, isTrue a X.env whole = (do let v ← whole; standAt a.pos; holding [v] (truthy v)) := by intro _; rfl) : QT X a (fun σ H Q => ta σ H fun x H1 => ∃ k, TruV X.K x H1 k ∧ Q k H1) := ⟨pt_truth ha.h he⟩
theorem qt_not (ha : QT X a tA) : QT X (.UnaryOp .Not a pos) (tNot tA) := ⟨pt_not ha.h⟩
theorem qe_not (ha : QE X a ta) : QE X (.UnaryOp .Not a pos) (tNotV ta) := ⟨pe_not ha.h⟩
theorem qw_and1 (ha : QT X a tA) : QW X (.BoolOp .And [a] pos) tA := ⟨pw_and1 ha.h⟩
theorem qw_or1 (ha : QT X a tA) : QW X (.BoolOp .Or [a] pos) tA := ⟨pw_or1 ha.h⟩
theorem qw_and {rest : List Expr} (ha : QT X a tA) (hb : QW X (.BoolOp .And (b :: rest) pos) tB') : QW X (.BoolOp .And (a :: b :: rest) pos) (tAnd tA tB') := ⟨pw_and ha.h hb.h⟩
theorem qw_or {rest : List Expr} (ha : QT X a tA) (hb : QW X (.BoolOp .Or (b :: rest) pos) tB') : QW X (.BoolOp .Or (a :: b :: rest) pos) (tOr tA tB') := ⟨pw_or ha.h hb.h⟩
theorem qt_w (h : QW X e tA) : QT X e tA := ⟨h.h.pt⟩
theorem qe_one {op} (h : QE X a ta) : QE X (.BoolOp op [a] pos) ta := ⟨pe_one h.h⟩
theorem qe_and {rest : List Expr} (ha : QE X a ta) (hb : QE X (.BoolOp .And (b :: rest) pos) tb) : QE X (.BoolOp .And (a :: b :: rest) pos) (tAndV ta tb) := ⟨pe_and ha.h hb.h⟩
theorem qa_nil : QA X [] tNil := ⟨pa_nil⟩
theorem qa_cons {t : TA} (ha : QE X e te) (hr : QA X es t) (hs : starEach (e :: es) X.env = (false, eval e X.env) :: starEach es X.env := by rfl) : QA X (e :: es) (tCons te t) := ⟨pa_cons ha.h hr.h hs⟩
theorem qe_tup {x1} {t : TA} (h : QA X es t) : QE X (.Tuple es x1 pos) (tTup t) := ⟨pe_tup h.h⟩
theorem qe_lst {t : TA} (h : QA X es t) : QE X (.List es pos) (tLst t) := ⟨pe_lst h.h⟩
theorem qe_ix {r : R2} (hr : QIx X r) (ha : QE X a ta) (hb : QE X b tb) (hs : PlainIx b := by intro _ _; rfl) : QE X (.Subscript a b pos) (tOp r ta tb) := ⟨pe_ix hr.h ha.h hb.h hs⟩
theorem qo_none : QO X none tNoPart := ⟨po_none⟩
theorem qo_some (h : QE X e te) : QO X (some e) (tPart te) := ⟨po_some h.h⟩
theorem qe_slice {r : V → Option Int → Option Int → Hp → VK → Prop} {lo hi : Option Expr} {tl th : TO} {p2 : Pos} (hr : QSl X r) (he : QE X e te) (hl : QO X lo tl) (hu : QO X hi th) : QE X (.Subscript e (.Slice lo hi none p2) pos) (tSl r te tl th) := ⟨pe_slice hr.h he.h hl.h hu.h⟩
theorem qe_dget (hu : X.A.units + 1 < cLine) (ho : QE X a ta) (hi : QE X b tb) (hs : NoSl b := by intro _ _; rfl) : QE X (.Subscript a b pos) (tDGet ta tb) := ⟨pe_dget hu ho.h hi.h hs⟩
theorem qp_nil : QPs X pos [] [] [] := ⟨pps_nil⟩
theorem qp_cons {k v : Expr} {ks : List (Option Expr)} {vs : List Expr} {tk tv : TE} {trs : List (TE × TE)} (hk : QE X k tk) (hv : QE X v tv) (hr : QPs X pos ks vs trs) : QPs X pos (some k :: ks) (v :: vs) ((tk, tv) :: trs) := ⟨pps_cons hk.h hv.h hr.h⟩
theorem qe_disp {keys : List (Option Expr)} {values : List Expr} {trs : List (TE × TE)} (h : QPs X pos keys values trs) (hall : keys.all (·.isSome) = true := by rfl) (hl : keys.length = values.length := by rfl) (h1 : keys ≠ [] := by intro z; cases z) (h2 : keys.length ≤ 15 := by decide) : QE X (.Dict keys values pos) (tDisp trs) := ⟨pe_disp h.h hall hl h1 h2⟩
theorem qe_call {CX : CXT} {k : Nat} {f : Addr} {fd : FuncData} {ps : List Str} {sp : Sp} {dvs : List V} {ds : List Value} {E : XK} {t : TA} (F : FnOk X.prog X.w X.K X.mg X.base CX k f fd ps sp) (hr : Room k X.A) (hg : Gl X x) (hm : X.mg x = some (.ref f)) (hk : PySem.W.keepIn X.K (.ref f) = true) (hb : Binds X.K fd ps ds) (hd : Vals dvs ds) (hx : Passes CX X E)
    (ha : QA X (e :: es) t) (hdb : (x == ("__debug__" : Str)) = false) (he : starEach (e :: es) X.env = (false, eval e X.env) :: starEach es X.env := by rfl) (hpl : (backTo pos (starEach es X.env)).any (·.1) = false := by rfl) :
    QE X (.Call (.Name x p) (e :: es) [] pos) (tCall sp dvs E t) := ⟨pe_call F hr hg hm hk hb hd hx ha.h hdb he hpl⟩
theorem qe_callB {id : String} {r : List V → Hp → VK → Prop} {t : TA} (hc : QCall X (.builtin id) r) (hg : Gl X x) (hm : X.mg x = none) (hv : bootBuiltins x = some (.builtin id)) (ha : QA X (e :: es) t) (hn : x ≠ "__name__") (hdb : (x == ("__debug__" : Str)) = false)
    (he : starEach (e :: es) X.env = (false, eval e X.env) :: starEach es X.env := by rfl) (hpl : (backTo pos (starEach es X.env)).any (·.1) = false := by rfl) : QE X (.Call (.Name x p) (e :: es) [] pos) (tCB r t) := ⟨pe_callB hc.h hg hm hv ha.h hn hdb he hpl⟩
theorem qe_callTy {T : String} {r : List V → Hp → VK → Prop} {t : TA} (hc : QCall X (.type T) r) (hg : Gl X x) (hm : X.mg x = none) (hv : bootBuiltins x = some (.type T)) (ha : QA X (e :: es) t) (hn : x ≠ "__name__") (hdb : (x == ("__debug__" : Str)) = false)
    (he : starEach (e :: es) X.env = (false, eval e X.env) :: starEach es X.env := by rfl) (hpl : (backTo pos (starEach es X.env)).any (·.1) = false := by rfl) : QE X (.Call (.Name x p) (e :: es) [] pos) (tCB r t) := ⟨pe_callTy hc.h hg hm hv ha.h hn hdb he hpl⟩
theorem qe_bm0 {o : Expr} {to : TE} {name : Str} {apos cpos : Pos} {T id : String} {r : V → List V → Hp → VK → Prop} (pa : PlainAttrs T) (slot : Slot T name id) (hty : typeOf (.builtin id) = pure (.type "method_descriptor")) (hm : QMt X id r) (ho : QE X o to)
    (hbase : attributeBase o name X.env (eval o X.env) = eval o X.env := by rfl) (hline : (apos.endLine == cpos.line) = true := by rfl) : QE X (.Call (.Attribute o name apos) [] [] cpos) (tBM0 X.K T r to) := ⟨pe_bm0 pa slot hty hm.h ho.h hbase hline⟩
theorem qe_bm {o : Expr} {to : TE} {name : Str} {apos cpos : Pos} {T id : String} {r : V → List V → Hp → VK → Prop} {t : TA} (pa : PlainAttrs T) (slot : Slot T name id) (hty : typeOf (.builtin id) = pure (.type "method_descriptor")) (hm : QMt X id r) (ho : QE X o to) (ha : QA X (e :: es) t)
    (hbase : attributeBase o name X.env (eval o X.env) = eval o X.env := by rfl)
    (hfew : ((backTo cpos (starEach (e :: es) X.env)).all (fun x => !x.1) && (backToKw cpos (keywordEach [] X.env)).all (fun x => x.1.isSome)
      && decide ((e :: es).length + ([] : List Keyword).length + (if ([] : List Keyword).isEmpty then 0 else 1) < 30)) = true := by rfl)
    (hline : (apos.endLine == cpos.line) = true := by rfl) (hs : starEach (e :: es) X.env = (false, eval e X.env) :: starEach es X.env := by rfl) (hplain : (backTo cpos (starEach es X.env)).any (·.1) = false := by rfl) :
    QE X (.Call (.Attribute o name apos) (e :: es) [] cpos) (tBM X.K T r to t) := ⟨pe_bm pa slot hty hm.h ho.h ha.h hbase hfew hline hs hplain⟩
theorem qe_comp {n : Nat} {fr : List Nat} {N : List Str} {sc : Scope} {elt tg iter : Expr} {ifs : List Expr} {wi : TI} {g : TG} {tc : TT} (hc : X.calm = true) (S : CScope X n fr N sc) (hit : QI X tg iter wi)
    (hg : ∀ pins C s₀ H₀ fp, QG (cxComp X N sc pins C s₀ H₀ fp) tg g) (hi : ∀ pins C s₀ H₀ fp, QIfs (cxComp X N sc pins C s₀ H₀ fp) ifs tc) (he : ∀ pins C s₀ H₀ fp, QE (cxComp X N sc pins C s₀ H₀ fp) elt te)
    (hs : ∀ x, foldedSetIterable iter X.env x = pure x := by intro _; rfl) : QE X (.ListComp elt [⟨tg, iter, ifs, 0⟩] sc pos) (tComp wi n fr g tc te) :=
  ⟨pe_comp hc S hit.h (fun a b c d e => (hg a b c d e).h) (fun a b c d e => (hi a b c d e).h) (fun a b c d e' => (he a b c d e').h) hs⟩
theorem qs_setcomp {i : Nat} {pos' spos : Pos} {n : Nat} {fr : List Nat} {N : List Str} {sc : Scope} {elt tg iter : Expr} {ifs : List Expr} {wi : TI} {g : TG} {tc : TT} (hc : X.calm = true) (hN : X.N.Nodup) (hi' : X.N[i]? = some x) (hx : Loc X.env.scope x) (S : CScope X n fr N sc) (hit : QI X tg iter wi)
    (hg : ∀ pins C s₀ H₀ fp, QG (cxComp X N sc pins C s₀ H₀ fp) tg g) (hi : ∀ pins C s₀ H₀ fp, QIfs (cxComp X N sc pins C s₀ H₀ fp) ifs tc) (he : ∀ pins C s₀ H₀ fp, QE (cxComp X N sc pins C s₀ H₀ fp) elt te)
    (hsw : swapsWith (.ListComp elt [⟨tg, iter, ifs, 0⟩] sc pos) (some (.Name x pos')) spos.line X.env = pure true)
    (hs : ∀ x, foldedSetIterable iter X.env x = pure x := by intro _; rfl) (hf : X.fn x = true ∨ X.env.scope.names.lookup x = some .local := by first | exact .inl rfl | exact .inr rfl | assumption) :
    QS X (.Assign [.Name x pos'] (.ListComp elt [⟨tg, iter, ifs, 0⟩] sc pos) spos) (tAsg (tComp wi n fr g tc te) (gName i)) :=
  ⟨ps_setcomp hc hN hi' hx S hit.h (fun a b c d e => (hg a b c d e).h) (fun a b c d e => (hi a b c d e).h) (fun a b c d e' => (he a b c d e').h) hsw hs hf⟩
theorem qi_nil : QIfs X [] tTrue := ⟨pifs_nil⟩
theorem qi_list {tg l : Expr} {tl : TE} (hl : QE X l tl) : QI X tg l (iList X.K tl) := ⟨pi_list hl.h⟩
theorem qi_tup {tg l : Expr} {tl : TE} (hl : QE X l tl) : QI X tg l (iTup X.K tl) := ⟨pi_tup hl.h⟩
theorem qi_range1 {tg : Expr} {t : TA} (hg : Gl X "range") (hm : X.mg "range" = none) (ha : QA X [a] t) (hs : starEach [a] X.env = [(false, eval a X.env)] := by rfl) : QI X tg (.Call (.Name "range" p) [a] [] pos) (iRng1 t) := ⟨pi_range1 hg hm ha.h hs⟩
theorem qi_range2 {tg : Expr} {t : TA} (hg : Gl X "range") (hm : X.mg "range" = none) (ha : QA X [a, b] t) (hs : starEach [a, b] X.env = [(false, eval a X.env), (false, eval b X.env)] := by rfl) (hs2 : starEach [b] X.env = [(false, eval b X.env)] := by rfl) : QI X tg (.Call (.Name "range" p) [a, b] [] pos) (iRng2 t) := ⟨pi_range2 hg hm ha.h hs hs2⟩
theorem qi_range3 {tg : Expr} {t : TA} (hg : Gl X "range") (hm : X.mg "range" = none) (ha : QA X [a, b, c] t)
    (hs : starEach [a, b, c] X.env = [(false, eval a X.env), (false, eval b X.env), (false, eval c X.env)] := by rfl) (hs2 : starEach [b, c] X.env = [(false, eval b X.env), (false, eval c X.env)] := by rfl) : QI X tg (.Call (.Name "range" p) [a, b, c] [] pos) (iRng3 t) := ⟨pi_range3 hg hm ha.h hs hs2⟩
theorem qg_name {i : Nat} (hN : X.N.Nodup) (hi : X.N[i]? = some x) (hx : Loc X.env.scope x) (hf : X.fn x = true ∨ X.env.scope.names.lookup x = some .local := by first | exact .inl rfl | exact .inr rfl | assumption) : QG X (.Name x pos) (gName i) := ⟨pg_name hN hi hx hf⟩
theorem qgx {i : Nat} (hN : X.N.Nodup) (hx : X.env.scope.names.lookup x = some .local) (hi : X.N[i]? = some x := by rfl) : QG X (.Name x pos) (gName i) := ⟨pgx hN hx hi⟩
theorem qgs_nil : QGs X [] gNil := ⟨pgs_nil⟩
theorem qgs_cons {t : TG} {u : TGs} (h1 : QG X e t) (h2 : QGs X es u) (hs : (assignEach (e :: es) X.env).map (·.2) = assign e X.env :: (assignEach es X.env).map (·.2) := by rfl) : QGs X (e :: es) (gCons t u) := ⟨pgs_cons h1.h h2.h hs⟩
theorem qg_tup {k n : Nat} {t : TGs} (hc : X.calm = true) (h : QGs X es t) (hn : (assignEach es X.env).length = n := by rfl) (hst : (assignEach es X.env).findIdx? (·.1) = none := by rfl) : QG X (.Tuple es k pos) (gTup X.K n t) := ⟨pg_tup hc h.h hn hst⟩
theorem qs_set {i : Nat} {pos' : Pos} (hN : X.N.Nodup) (hi : X.N[i]? = some x) (hx : Loc X.env.scope x) (he : QE X e te) (hs : swapsWith e (some (.Name x pos')) pos.line X.env = pure false := by rfl) (hf : X.fn x = true ∨ X.env.scope.names.lookup x = some .local := by first | exact .inl rfl | exact .inr rfl | assumption) :
    QS X (.Assign [.Name x pos'] e pos) (tAsg te (gName i)) := ⟨ps_set hN hi hx he.h hs hf⟩
theorem qs_dput {o i v : Expr} {td ty tv : TE} {pos' : Pos} (hu : X.A.units + 1 < cLine) (ho : QE X o td) (hi : QE X i ty) (hv : QE X v tv) (hs : swapsWith v (some (.Subscript o i pos')) pos.line X.env = pure false := by rfl) : QS X (.Assign [.Subscript o i pos'] v pos) (sDPut td ty tv) := ⟨ps_dput hu ho.h hi.h hv.h hs⟩
theorem qs_expr (he : QE X e te) (hs : swapsWith e none pos.line X.env = pure false := by rfl) : QS X (.Expr e pos) (tDrop te) := ⟨ps_expr he.h hs⟩
theorem qs_ret (he : QE X e te) : QS X (.Return (some e) pos) (tRet te) := ⟨ps_ret he.h⟩
theorem qs_if {s1 s2 : List Stmt} {t u : TS} (hc : QT X c tA) (ha : QSs X s1 t) (hb : QSs X s2 u) : QS X (.If c s1 s2 pos) (tIfS tA t u) := ⟨ps_if hc.h ha.h hb.h⟩
theorem qs_while {body : List Stmt} {tb : TS} (hp : PassesOwn (model X.prog X.w) X.A X.env X.xe) (hc : QT X c tA) (hb : QSs X body tb) : QS X (.While c body [] pos) (tWhile tA tb) := ⟨ps_while hp hc.h hb.h⟩
theorem qs_for {tg iter : Expr} {body : List Stmt} {wi : TI} {g : TG} {tb : TS} (hp : PassesOwn (model X.prog X.w) X.A X.env X.xe) (hc : X.calm = true) (hi : QI X tg iter wi) (hg : QG X tg g) (hb : QSs X body tb)
    (hs : ∀ x, foldedSetIterable iter X.env x = pure x := by intro _; rfl) : QS X (.For tg iter body [] pos) (tFor wi g tb) := ⟨ps_for hp hc hi.h hg.h hb.h hs⟩
theorem qss_nil : QSs X [] tNext := ⟨pss_nil⟩
theorem qss_cons {s : Stmt} {rest : List Stmt} {t u : TS} (h1 : QS X s t) (h2 : QSs X rest u) : QSs X (s :: rest) (tSeq t u) := ⟨pss_cons h1.h h2.h⟩
theorem qss_one {s : Stmt} {t : TS} (h1 : QS X s t) : QSs X [s] t := ⟨pss_one h1.h⟩
theorem qop_add : QOp X (binaryOp .Add) (rI0 fun i j => .int (i + j)) := ⟨op_add⟩
theorem qop_sub : QOp X (binaryOp .Sub) (rI0 fun i j => .int (i - j)) := ⟨op_sub⟩
theorem qop_mul : QOp X (binaryOp .Mult) (rI CMul fun i j => .int (i * j)) := ⟨op_mul⟩
theorem qop_mod : QOp X (binaryOp .Mod) (rI (fun _ j => 0 < j) fun i j => .int (i % j)) := ⟨op_mod⟩
theorem qop_fdiv : QOp X (binaryOp .FloorDiv) (rI CDivB fun i j => .int (i / j)) := ⟨op_fdivB⟩
theorem qop_pow : QOp X (binaryOp .Pow) (rI CPow fun i j => .int (i ^ j.toNat)) := ⟨op_pow⟩
theorem qop_add_str : QOp X (binaryOp .Add) (fun x y H Q => ∃ i j, x = .str i ∧ y = .str j ∧ i.length + j.length ≤ sizeLine ∧ Q (.str (i ++ j)) H) := ⟨op_add_str⟩
theorem qop_cat : QOp X (binaryOp .Add) rCat := ⟨op_cat⟩
theorem qop_rep : QOp X (binaryOp .Mult) rRep := ⟨op_rep⟩
theorem qun_neg : QUn X (unaryOp .USub) (rU fun i => .int (-i)) := ⟨un_neg⟩
theorem qop_eq : QOp X (compareOp .Eq) rEq := ⟨op_eq⟩
theorem qop_lt : QOp X (compareOp .Lt) (rI0 fun i j => .bl (decide (i < j))) := ⟨op_lt⟩
theorem qop_le : QOp X (compareOp .LtE) (rI0 fun i j => .bl (decide (i ≤ j))) := ⟨op_le⟩
theorem qop_gt : QOp X (compareOp .Gt) (rI0 fun i j => .bl (decide (j < i))) := ⟨op_gt⟩
theorem qop_ge : QOp X (compareOp .GtE) (rI0 fun i j => .bl (decide (j ≤ i))) := ⟨op_ge⟩
theorem qop_inTab {a : Addr} {D : List (Str × PyData)} (T : Tab X.prog X.w X.K a D) : QOp X (compareOp .In) (rInTab a D false) := ⟨op_inTab T⟩
theorem qix_list : QIx X (rIxL X.K) := ⟨ix_list⟩
theorem qix_tup : QIx X (rIxT X.K) := ⟨ix_tup⟩
theorem qix_str : QIx X rIxS := ⟨ix_str⟩
theorem qix_tab {a : Addr} {D : List (Str × PyData)} (T : Tab X.prog X.w X.K a D) : QIx X (rTab a D) := ⟨ix_tab T⟩
theorem qsl_list : QSl X (rSlL X.K) := ⟨sl_list⟩
theorem qsl_tup : QSl X (rSlT X.K) := ⟨sl_tup⟩
theorem qmt_append : QMt X "list.append" rAppend := ⟨mt_append⟩
theorem qmt_pop : QMt X "list.pop" rPop := ⟨mt_pop⟩
theorem qc_len_seq : QCall X (.builtin "len") (fun xs H Q => ∃ p ys, xs = [.ref p] ∧ (SqL X.K H p ys ∨ SqT X.K H p ys) ∧ Q (.int ys.length) H) := ⟨call_len_seq⟩
theorem qc_len_str : QCall X (.builtin "len") (fun xs H Q => ∃ z, xs = [.str z] ∧ z.length ≤ sizeLine ∧ Q (.int z.length) H) := ⟨call_len_str⟩
theorem qc_isi : QCall X (.builtin "isinstance") (fun xs H Q => ∃ x T t b, xs = [x, .ty T] ∧ TyOf X.K H x t ∧ PySem.W.kitOne X.K t (.type T) = some b ∧ Q (.bl b) H) := ⟨call_isi⟩
theorem qc_list_of : QCall X (.type "list") (fun xs H Q => ∃ p ys, xs = [.ref p] ∧ (SqL X.K H p ys ∨ SqT X.K H p ys) ∧ ∀ l, H l = none → Q (.ref l) (upd H l (.lst ys))) := ⟨call_list_of⟩
theorem nomarkQ (b : Expr) {op : CmpOp} (h : op ≠ .In := by decide) (h2 : op ≠ .NotIn := by decide) : behindInMarks op b = false := nomark b h h2
/-! ### .. with the written part named (for a comprehension's block) -/
theorem qix_listK {K : PySem.W.Frag} (e : X.K = K) : QIx X (rIxL K) := e ▸ qix_list
theorem qix_tupK {K : PySem.W.Frag} (e : X.K = K) : QIx X (rIxT K) := e ▸ qix_tup
theorem qsl_listK {K : PySem.W.Frag} (e : X.K = K) : QSl X (rSlL K) := e ▸ qsl_list
end
end L2

set_option maxRecDepth 100000
namespace L2
open PySem PySem.Spec PyProof.Rows

/-! ### the signs of a text, walked -/
noncomputable def Its (x : Str) : It := ⟨fun i _ => i < x.cps.size, fun i H v H' => H' = H ∧ ∃ c, x.cps[i]? = some c ∧ v = .str ⟨#[c]⟩, fun i _ => x.cps.size ≤ i⟩
theorem turn_str {P : Program} {w : World} {K : PySem.W.Frag} {tg : Expr} (it : Addr) (x : Str) (t : Tok) : Turn P w K tg (Its x) [it] it (fun i h => h.IsStrIter it (strIterType x) x t i) where
  mem := by simp
  obj := fun i h st b hb => by
    have e : b = it := by simpa using hb
    subst e
    obtain ⟨o, e, c, d⟩ := st
    exact ⟨o, e, fun v z => by rw [d] at z; cases z⟩
  keep := fun i h h' st k => let ⟨o, ho, r⟩ := st; ⟨o, k it (by simp) o ho, r⟩
  item := by
    intro X hP hw hK hc i pins s σ H E I hf st hg
    subst hP hw hK
    obtain ⟨f0, f1, f2, f3, f4, f5⟩ := hf it (by simp)
    have fin : ∀ (v : Value) (h' : Heap) (tk : Nat), SignAt x i v → h'.IsStrIter it (strIterType x) x t (i + 1) → (∀ b o, b ∉ [it] → s.heap.get? b = some o → h'.get? b = some o) →
        ∃ u, some v = some u ∧ wpAny (model X.prog X.w) X.A (letOwnedTupleGo tg (.ref it) u) (fun _ s2 => ∃ y H', Inv X pins σ H' s2 ∧ RelV y u ∧ (Its x).yld i H y H' ∧ s2.heap.IsStrIter it (strIterType x) x t (i + 1) ∧ ∀ b ∈ [it], H' b = none) E { s with heap := h', toks := tk } := by
      intro v h' tk hv st' kk
      obtain ⟨c, u, hx, rfl⟩ := hv
      have I1 : Inv X pins σ H { s with heap := h', toks := tk } := I.turned (fun b o hb e => kk b o (by simpa using hb) e) f0 f1 f3 f4 f5
      obtain ⟨o, e, cc, d⟩ := id st'
      refine ⟨_, rfl, go_of (s := { s with heap := h', toks := tk }) (n := strIterType x) e cc d ?_ ⟨.str ⟨#[c]⟩, H, I1, ⟨u, rfl⟩, ⟨rfl, c, hx, rfl⟩, st', fun b hb => (hf b hb).1⟩⟩
      unfold strIterType
      split <;> decide
    cases ha : x.cps.all (· < 128) with
    | true =>
      have et : strIterType x = "str_ascii_iterator" := by simp [strIterType, ha]
      rw [et] at st fin ⊢
      exact (Walks.strAscii (prog := X.prog) (w := X.w) (I.ok.hd hc) it x t).item i s _ _ hg st fun v h' tk hv st' kk => fin v h' tk hv st' kk
    | false =>
      have et : strIterType x = "str_iterator" := by simp [strIterType, ha]
      rw [et] at st fin ⊢
      exact (Walks.strWide (prog := X.prog) (w := X.w) (I.ok.hd hc) it x t).item i s _ _ hg st fun v h' tk hv st' kk => fin v h' tk hv st' kk
  done := by
    intro X hP hw hK hc i pins s σ H E I hf st hg
    subst hP hw hK
    obtain ⟨f0, f1, f2, f3, f4, f5⟩ := hf it (by simp)
    have hg' : x.cps.size ≤ i := hg
    have hn : x.cps[i]? = none := by simpa using hg'
    cases ha : x.cps.all (· < 128) with
    | true =>
      have et : strIterType x = "str_ascii_iterator" := by simp [strIterType, ha]
      rw [et] at st
      exact wpAny_pyNext_ascii_end (I.ok.hd hc) st hn fun h' eb => ⟨rfl, I.turned (t' := s.toks) (fun b o hb e => eb b o hb e) f0 f1 f3 f4 f5⟩
    | false =>
      have et : strIterType x = "str_iterator" := by simp [strIterType, ha]
      rw [et] at st
      exact wpAny_pyNext_wide_end (I.ok.hd hc) st hn fun h' eb => ⟨rfl, I.turned (t' := s.toks) (fun b o hb e => eb b o hb e) f0 f1 f3 f4 f5⟩
  self := fun A i s Q E st h => by
    cases ha : x.cps.all (· < 128) with
    | true =>
      have et : strIterType x = "str_ascii_iterator" := by simp [strIterType, ha]
      rw [et] at st
      exact wpAny_pyIter_striter_ascii st h
    | false =>
      have et : strIterType x = "str_iterator" := by simp [strIterType, ha]
      rw [et] at st
      exact wpAny_pyIter_striter_wide st h
noncomputable def iStr (tl : TE) : TI := fun σ H R => tl σ H fun v H1 => ∃ x, v = .str x ∧ R (Its x) H1
theorem pi_str {X : Cx} {tg l : Expr} {tl : TE} (hl : PE X l tl) : PI X tg l (iStr tl) := by
  intro pins s σ H R I h
  refine thn (hl pins s σ H _ I h) fun v s1 ⟨y, H1, I1, r1, q1⟩ => ?_
  obtain ⟨x, e, q⟩ := q1
  subst e
  obtain ⟨t, rfl⟩ := r1
  refine wpAny_pyIter_strU ?_
  refine ⟨s1.heap.objs.size, [s1.heap.objs.size], _, _, H1, rfl, I1.kept (t' := s1.toks) fun b o e => Heap.get?_push_of_some _ e, turn_str _ x t, ⟨_, Heap.get?_push_size _ rfl, rfl, rfl⟩, fun b hb => ?_, q⟩
  have e : b = s1.heap.objs.size := by simpa using hb
  subst e
  exact I1.fpOk (Nat.le_refl _) (I1.hok.fresh (Nat.le_refl _))
theorem comp_str {x : Str} {g : TG} {tc : TT} {te : TE} {σ : L2.St} {H : Hp} {D : Addr} {Q : VK} (Pv : Nat → L2.St → Hp → Prop) (h0 : Pv 0 σ (upd H D (.lst [])))
    (hs : ∀ i c σ' H', x.cps[i]? = some c → Pv i σ' H' → g (.str ⟨#[c]⟩) σ' H' fun σ3 H3 => tc σ3 H3 fun b H4 =>
      if b = true then te σ3 H4 fun y H5 => ∃ ys, H5 D = some (.lst ys) ∧ ys.length < sizeLine ∧ Pv (i + 1) σ3 (upd H5 D (.lst (ys ++ [y]))) else Pv (i + 1) σ3 H4) (hd : ∀ σ' H', Pv x.cps.size σ' H' → Q (.ref D) H') :
    CompW (Its x) g tc te D σ (upd H D (.lst [])) Q := by
  refine ⟨fun i m σ H => m = x.cps.size - i ∧ i ≤ x.cps.size ∧ Pv i σ H, ⟨x.cps.size, by simp, Nat.zero_le _, h0⟩, ?_⟩
  rintro i m σ H ⟨rfl, hi, p⟩
  by_cases hlt : i < x.cps.size
  · refine .inr ⟨hlt, Pv (i + 1), fun σ' H' p' => ⟨x.cps.size - (i + 1), by omega, rfl, hlt, p'⟩, fun y H' z => ?_⟩
    obtain ⟨e, c, hc, rfl⟩ := z
    subst e
    exact hs i c σ _ hc p
  · have e : i = x.cps.size := by omega
    subst e
    exact .inl ⟨Nat.le_refl _, hd σ H p⟩

/-! ### all, sum -/
theorem call_allB {X : Cx} (hc : X.calm = true) : CallR X (.builtin "all") (fun xs H Q => ∃ (p : Addr) (bs : List Bool), xs = [V.ref p] ∧ SqL X.K H p (bs.map V.bl) ∧ Q (.bl (bs.all id)) H) := by
  intro pins s σ H xs us Q I r h
  obtain ⟨p, bs, rfl, hp, q⟩ := h
  obtain ⟨u, rfl, ru⟩ := Vals.one r
  cases (show u = Value.ref p from ru)
  obtain ⟨its, rv, pl, hz⟩ := I.list hp
  have hlt : p < s.heap.objs.size := by obtain ⟨o, n, e, _⟩ := pl; exact Heap.lt_size e
  have hlen : its.length = bs.length := by rw [← rv.length, List.length_map]
  refine call_all_walk (wpAny_pyIter_list pl.isList ?_)
  refine ⟨s.heap.objs.size, _, _, its.toArray.size, (fun i v => its.toArray[i]? = some v), _, (fun i => bs.getD i false), rfl, Walks.list (A := X.A.in1) (I.ok.hd hc) s.heap.objs.size p (Nat.ne_of_lt hlt) its.toArray, ⟨⟨_, Heap.get?_push_size _ rfl, rfl, rfl⟩, pl.isList.push _⟩, ?_, ?_⟩
  · intro i v s' Q' E' hv hq
    have hi : i < bs.length := by
      rw [← hlen]
      have := (Array.getElem?_eq_some_iff.mp hv).1
      simpa using this
    obtain ⟨u, hu, ru⟩ := rv.get (i := i) (x := V.bl bs[i]) (by rw [List.getElem?_map, List.getElem?_eq_getElem hi]; rfl)
    have hv' : its[i]? = some v := by simpa using hv
    rw [hu] at hv'
    cases hv'
    cases (show v = Value.bool _ from ru)
    refine wpAny_truthy_bool ?_
    have e : bs.getD i false = bs[i] := by rw [List.getD_eq_getElem?_getD, List.getElem?_eq_getElem hi]; rfl
    have hq' : Q' (bs.getD i false) s' := hq
    rw [e] at hq'
    exact hq'
  · intro h' tk hk
    have e : (List.range its.toArray.size).all (fun i => bs.getD i false) = bs.all id := by
      rw [List.size_toArray, hlen]
      rw [Bool.eq_iff_iff, List.all_eq_true, List.all_eq_true]
      constructor
      · intro h b hb
        obtain ⟨i, hi, rfl⟩ := List.mem_iff_getElem.mp hb
        have := h i (List.mem_range.mpr hi)
        rw [List.getD_eq_getElem?_getD, List.getElem?_eq_getElem hi] at this
        exact this
      · intro h i hi
        have hi' := List.mem_range.mp hi
        rw [List.getD_eq_getElem?_getD, List.getElem?_eq_getElem hi']
        exact h _ (List.getElem_mem hi')
    rw [e]
    refine ⟨.bl _, H, I.kept (t' := tk) fun b o eb => hk b o ?_ (Heap.get?_push_of_some _ eb), rfl, q⟩
    intro z
    have : b = s.heap.objs.size := by simpa using z
    exact absurd (Heap.lt_size eb) (by rw [this]; exact Nat.lt_irrefl _)
theorem call_sumL {X : Cx} (hc : X.calm = true) : CallR X (.builtin "sum") (fun xs H Q => ∃ (p : Addr) (ns : List Int), xs = [V.ref p] ∧ SqL X.K H p (ns.map V.int) ∧ PySem.SumFits ns ∧ Q (.int ns.sum) H) := by
  intro pins s σ H xs us Q I r h
  obtain ⟨p, ns, rfl, hp, hf, q⟩ := h
  obtain ⟨u, rfl, ru⟩ := Vals.one r
  cases (show u = Value.ref p from ru)
  obtain ⟨its, rv, pl, hz⟩ := I.list hp
  have hi := intsAre_of rv
  have hall := hi.allInts
  have hnum : numsOf its.toArray.toList = ns := by rw [show its.toArray.toList = its from rfl, hi.numsOf]
  have hl := pl.isList
  obtain ⟨xs, ex⟩ := hall.items
  rw [ex] at hl hnum
  rw [nums_intItems] at hnum
  subst hnum
  refine sum_intList (I.ok.hd hc) hl (fun j hj => ?_) fun h' tk t' hk => ?_
  · rw [numAt_eq, preSum_eq]; exact hf j (by simpa using hj)
  · rw [preSum_eq, List.take_of_length_le (by simp)]
    exact ⟨.int _, H, I.kept (t' := tk) hk, ⟨t', rfl⟩, q⟩

/-! ### a tuple, n times -/
/-! ### wrappers -/
section
variable {X : Cx} {a b c e : Expr} {ta tb tc te : TE} {pos : Pos}
theorem qop_in_str : QOp X (compareOp .In) (fun x y H Q => ∃ i j, x = .str i ∧ y = .str j ∧ Q (.bl (!(Builtin.Str.occurrences j i 0 j.length 1).isEmpty)) H) := ⟨op_in_str⟩
theorem qi_str {tg l : Expr} {tl : TE} (hl : QE X l tl) : QI X tg l (iStr tl) := ⟨pi_str hl.h⟩
theorem qc_allB (hc : X.calm = true) : QCall X (.builtin "all") (fun xs H Q => ∃ (p : Addr) (bs : List Bool), xs = [V.ref p] ∧ SqL X.K H p (bs.map V.bl) ∧ Q (.bl (bs.all id)) H) := ⟨call_allB hc⟩
theorem qc_sumL (hc : X.calm = true) : QCall X (.builtin "sum") (fun xs H Q => ∃ (p : Addr) (ns : List Int), xs = [V.ref p] ∧ SqL X.K H p (ns.map V.int) ∧ PySem.SumFits ns ∧ Q (.int ns.sum) H) := ⟨call_sumL hc⟩
theorem qt_chain {op op' : CmpOp} {r r' : R2} (ho : QOp X (compareOp op) r) (ho' : QOp X (compareOp op') r') (ha : QE X a ta) (hb : QE X b tb) (hc : QE X c tc)
    (hm : lastMarks [op, op'] [b, c] = false := by with_unfolding_all rfl) : QT X (.Compare a [op, op'] [b, c] pos) (tTest (tChain r r' ta tb tc)) := ⟨pt_chain ho.h ho'.h ha.h hb.h hc.h hm⟩
end
end L2

set_option maxRecDepth 100000
namespace RB
open PySem L2 PySem.Spec PyProof.Rows

/-! ### heaps that keep what stands -/
/-- all but S is kept -/
noncomputable def But (S : List Addr) (H H' : Hp) : Prop := ∀ b o, b ∉ S → H b = some o → H' b = some o
theorem But.trans {S : List Addr} {H H1 H2 : Hp} (a : But S H H1) (b : But S H1 H2) : But S H H2 := fun c o n h => b c o n (a c o n h)
theorem But.set {S : List Addr} {H : Hp} {p : Addr} (o : HO) (h : p ∈ S) : But S H (upd H p o) := fun b u n q => by rw [upd_ne (show b ≠ p from fun e => n (by rw [e]; exact h))]; exact q
theorem But.of_same {S : List Addr} {H H' : Hp} (h : Same H H') : But S H H' := fun b o _ q => h b o q
theorem same_new {H : Hp} {p : Addr} (o : HO) (h : H p = none) : Same H (upd H p o) := fun b u q => by rw [upd_ne (ne_of_none q h)]; exact q
/-- tuples are kept -/
noncomputable def Tups (H H' : Hp) : Prop := ∀ b xs, H b = some (.tup xs) → H' b = some (.tup xs)
theorem Same.tups {H H' : Hp} (h : Same H H') : Tups H H' := fun b xs q => h b _ q

/-! ### recipes -/
inductive Op where | plus | minus | times | most
  deriving DecidableEq
noncomputable def Op.word : Op → Str
  | .plus => "plus" | .minus => "minus" | .times => "times" | .most => "most"
inductive R where
  | num (n : Int) | rd (x : Str) | bin (op : Op) (a b : R) | pick (a b c : R) | cho (a : R) (ns : List Str)
noncomputable def R.depth : R → Nat
  | .num _ => 1
  | .rd _ => 1
  | .bin _ a b => max a.depth b.depth + 1
  | .pick a b c => max a.depth (max b.depth c.depth) + 1
  | .cho a _ => a.depth + 1
noncomputable def isLow (c : Nat) : Prop := 97 ≤ c ∧ c ≤ 122
noncomputable def GName (x : Str) : Prop := 1 ≤ x.length ∧ x.length ≤ 8 ∧ ∀ c ∈ x.cps.toList, isLow c
noncomputable def R.Good : R → Prop
  | .num n => n.natAbs < 10 ^ 40
  | .rd x => GName x
  | .bin _ a b => a.Good ∧ b.Good
  | .pick a b c => a.Good ∧ b.Good ∧ c.Good
  | .cho a ns => a.Good ∧ 1 ≤ ns.length ∧ ns.length ≤ 9 ∧ ∀ x ∈ ns, GName x
inductive IsR (H : Hp) : Addr → R → Prop where
  | num {a : Addr} {n : Int} (e : H a = some (.tup [.str "number", .int n])) : IsR H a (.num n)
  | rd {a : Addr} {x : Str} (e : H a = some (.tup [.str "read", .str x])) : IsR H a (.rd x)
  | bin {a b c : Addr} {op : Op} {r s : R} (e : H a = some (.tup [.str op.word, .ref b, .ref c])) (h1 : IsR H b r) (h2 : IsR H c s) : IsR H a (.bin op r s)
  | pick {a b c d : Addr} {r s t : R} (e : H a = some (.tup [.str "pick", .ref b, .ref c, .ref d])) (h1 : IsR H b r) (h2 : IsR H c s) (h3 : IsR H d t) : IsR H a (.pick r s t)
  | cho {a b c : Addr} {r : R} {ns : List Str} (e : H a = some (.tup [.str "choose", .ref b, .ref c])) (h1 : IsR H b r) (h2 : H c = some (.tup (ns.map V.str))) : IsR H a (.cho r ns)
theorem IsR.tups {H H' : Hp} (t : Tups H H') {a : Addr} {r : R} (h : IsR H a r) : IsR H' a r := by
  induction h with
  | num e => exact .num (t _ _ e)
  | rd e => exact .rd (t _ _ e)
  | bin e _ _ i1 i2 => exact .bin (t _ _ e) i1 i2
  | pick e _ _ _ i1 i2 i3 => exact .pick (t _ _ e) i1 i2 i3
  | cho e _ h2 i1 => exact .cho (t _ _ e) i1 (t _ _ h2)
theorem IsR.same {H H' : Hp} (t : Same H H') {a : Addr} {r : R} (h : IsR H a r) : IsR H' a r := h.tups (Same.tups t)
theorem R.depth_pos (r : R) : 1 ≤ r.depth := by cases r <;> simp [R.depth]



/-! ### decks -/
/-- law(script) is True -/
noncomputable def spLaw (K : PySem.W.Frag) : Sp := fun vs H Q _ => ∃ (a : Addr) (ns : List Int), vs = [.ref a] ∧ SqL K H a (ns.map V.int) ∧ ns.length ≤ 63 ∧ ∀ H', Q (.bl true) H'

/-! ### a def of the text -/
structure FnT (K : PySem.W.Frag) (mg : Str → Option Value) (x : Str) (st : Stmt) (ps : List Str) (f : Addr) (fd : FuncData) : Prop where
  F : Fun K x x st f fd
  b : Binds K fd ps []
  m : mg x = some (.ref f)
/-- none of these is a name of the text's own -/
structure Blt (mg : Str → Option Value) : Prop where
  b_len : mg "len" = none
  b_range : mg "range" = none
  b_str : mg "str" = none
  b_int : mg "int" = none
  b_list : mg "list" = none
  b_tuple : mg "tuple" = none
  b_isinstance : mg "isinstance" = none
  b_bool : mg "bool" = none
  b_dict : mg "dict" = none
  b_sum : mg "sum" = none
  b_all : mg "all" = none
  b_any : mg "any" = none
  b_max : mg "max" = none
  b_min : mg "min" = none
  b_sorted : mg "sorted" = none
  b_set : mg "set" = none
  b_enumerate : mg "enumerate" = none
  b_zip : mg "zip" = none
  b_reversed : mg "reversed" = none
  b_abs : mg "abs" = none
end RB
namespace RB
open PySem L2 PySem.Spec PyProof.Rows
theorem at_ok {xs : List Int} {i : Int} (h0 : 0 ≤ i) (h1 : i < ((xs.map V.int).length : Int)) : ∃ v j, atI (xs.map V.int) i = some (.int v) ∧ ixN (xs.map V.int).length i = some j ∧ j < xs.length ∧ ∀ u : Int, (xs.map V.int).set j (.int u) = (xs.set j u).map V.int := by
  have hl : (xs.map V.int).length = xs.length := List.length_map _
  obtain ⟨j, rfl⟩ := Int.eq_ofNat_of_zero_le h0
  have hj : j < xs.length := by omega
  refine ⟨xs[j], j, atI_nat (by rw [List.getElem?_map, List.getElem?_eq_getElem hj]; rfl), ?_, hj, fun u => ?_⟩
  · unfold ixN
    rw [if_pos h0, if_pos (by omega)]
    simp
  · rw [List.map_set]
end RB
namespace RB
open PySem L2 PySem.Spec PyProof.Rows
instance (x : Str) : Decidable (GName x) := by unfold GName isLow; exact inferInstance
theorem letters_cps : (Str.ofString "abcdefghijklmnopqrstuvwxyz").cps.toList = (List.range 26).map (· + 97) := by decide +kernel
theorem itD_t {c A B : Prop} [Decidable c] (hc : c) (h : A) : if decide c = true then A else B := by rw [if_pos (decide_eq_true hc)]; exact h
theorem itD_f {c A B : Prop} [Decidable c] (hc : ¬ c) (h : B) : if decide c = true then A else B := by rw [if_neg (by simpa using hc)]; exact h
end RB

namespace RB
open PySem L2 PySem.Spec PyProof.Rows
theorem never {P : Program} {w : World} {K : PySem.W.Frag} {mg : Str → Option Value} {base : Heap} {k : Nat} {f : Addr} {fd : FuncData} {ps : List Str} {sp : Sp} (no : ∀ vs H Q E, ¬ sp vs H Q E) : FnOk P w K mg base CX0 k f fd ps sp :=
  ⟨fun vs H Q E h => absurd h (no vs H Q E), fun A outer s H args us vs Q E _ _ _ _ h => absurd h (no vs H Q E)⟩
end RB
namespace RB
open PySem L2 PySem.Spec PyProof.Rows
end RB
namespace RB
open PySem L2 PySem.Spec PyProof.Rows
end RB
namespace RB
open PySem L2 PySem.Spec PyProof.Rows
end RB
namespace RB
open PySem L2 PySem.Spec PyProof.Rows
theorem tups_set {H : Hp} {p : Addr} {xs : List V} (o : HO) (h : H p = some (.lst xs)) : Tups H (upd H p o) := fun b ys q => by
  rw [upd_ne (ne_of q h (by intro z; cases z))]; exact q
theorem same_updN {H H' : Hp} {p : Addr} (o : HO) (h : H p = none) (s : Same H H') : Same H (upd H' p o) := fun b u q => by
  rw [upd_ne (ne_of_none q h)]; exact s b u q
/-- a row of recipes -/
noncomputable def Row (H : Hp) (p : Addr) (n d : Nat) : Prop := ∃ as : List Addr, H p = some (.lst (as.map V.ref)) ∧ as.length = n ∧ ∀ a ∈ as, ∃ r, IsR H a r ∧ r.Good ∧ r.depth ≤ d
/-- one more recipe at the row's end -/
theorem Row.add {H : Hp} {p x : Addr} {n d : Nat} {as : List Addr} {r : R} (e : H p = some (.lst (as.map V.ref))) (el : as.length = n) (hall : ∀ a ∈ as, ∃ r, IsR H a r ∧ r.Good ∧ r.depth ≤ d) (h : IsR H x r) (hg : r.Good) (hd : r.depth ≤ d) :
    Row (upd H p (.lst (as.map V.ref ++ [.ref x]))) p (n + 1) d := by
  refine ⟨as ++ [x], by rw [upd_same, List.map_append]; rfl, by rw [List.length_append, el]; rfl, fun a ha => ?_⟩
  rcases List.mem_append.mp ha with z | z
  · obtain ⟨s, h1, h2, h3⟩ := hall a z
    exact ⟨s, h1.tups (tups_set _ e), h2, h3⟩
  · have : a = x := by simpa using z
    rw [this]
    exact ⟨r, h.tups (tups_set _ e), hg, hd⟩
end RB
namespace RB
open PySem L2 PySem.Spec PyProof.Rows
end RB

set_option maxRecDepth 100000
namespace RB
open PySem L2 PySem.Spec PyProof.Rows

/-! ### any thing, and whether it is a recipe -/
inductive Th where
  | non | bl (b : Bool) | int (i : Int) | str (x : Str) | tup (xs : List Th) | oth (T : String)
mutual
inductive IsTh (K : PySem.W.Frag) (H : Hp) : V → Th → Prop where
  | non : IsTh K H .non .non
  | bl (b : Bool) : IsTh K H (.bl b) (.bl b)
  | int (i : Int) : IsTh K H (.int i) (.int i)
  | str (x : Str) : IsTh K H (.str x) (.str x)
  | tup {a : Addr} {vs : List V} {ts : List Th} (e : H a = some (.tup vs)) (h : IsThs K H vs ts) : IsTh K H (.ref a) (.tup ts)
  | oth {a : Addr} {T : String} (h : TyOf K H (.ref a) (.type T)) (hT : T = "list" ∨ T = "dict") (keep : ∀ H', Same H H' → TyOf K H' (.ref a) (.type T)) : IsTh K H (.ref a) (.oth T)
inductive IsThs (K : PySem.W.Frag) (H : Hp) : List V → List Th → Prop where
  | nil : IsThs K H [] []
  | cons {v : V} {t : Th} {vs : List V} {ts : List Th} (h : IsTh K H v t) (r : IsThs K H vs ts) : IsThs K H (v :: vs) (t :: ts)
end
mutual
theorem IsTh.same {K : PySem.W.Frag} {H H' : Hp} (s : Same H H') : ∀ {v : V} {t : Th}, IsTh K H v t → IsTh K H' v t
  | _, _, .non => .non
  | _, _, .bl b => .bl b
  | _, _, .int i => .int i
  | _, _, .str x => .str x
  | _, _, .tup e h => .tup (s _ _ e) (IsThs.same s h)
  | _, _, .oth h hT k => .oth (k _ s) hT fun H2 s2 => k _ (s.trans s2)
theorem IsThs.same {K : PySem.W.Frag} {H H' : Hp} (s : Same H H') : ∀ {vs : List V} {ts : List Th}, IsThs K H vs ts → IsThs K H' vs ts
  | _, _, .nil => .nil
  | _, _, .cons h r => .cons (IsTh.same s h) (IsThs.same s r)
end
theorem IsThs.length {K : PySem.W.Frag} {H : Hp} : ∀ {vs : List V} {ts : List Th}, IsThs K H vs ts → vs.length = ts.length
  | _, _, .nil => rfl
  | _, _, .cons _ r => congrArg (· + 1) (IsThs.length r)
theorem IsThs.get {K : PySem.W.Frag} {H : Hp} : ∀ {vs : List V} {ts : List Th} {i : Nat} {v : V}, IsThs K H vs ts → vs[i]? = some v → ∃ t, ts[i]? = some t ∧ IsTh K H v t
  | _, _, _, _, .nil, e => by simp at e
  | _, _, 0, _, .cons h _, e => by simp at e; subst e; exact ⟨_, rfl, h⟩
  | _, _, i + 1, v, .cons _ r, e => by
    obtain ⟨t, h1, h2⟩ := IsThs.get (i := i) (v := v) r (by simpa using e)
    exact ⟨t, by simpa using h1, h2⟩
noncomputable def tyTh : Th → String
  | .non => "NoneType" | .bl _ => "bool" | .int _ => "int" | .str _ => "str" | .tup _ => "tuple" | .oth T => T
theorem IsTh.ty {K : PySem.W.Frag} {H : Hp} {v : V} {t : Th} (h : IsTh K H v t) : TyOf K H v (.type (tyTh t)) := by
  cases h with
  | non => exact .non
  | bl b => exact .bl b
  | int i => exact .int i
  | str x => exact .str x
  | tup e _ => exact .tup e
  | oth h _ _ => exact h
noncomputable def tys : List String := ["NoneType", "bool", "int", "str", "tuple", "list", "dict"]
noncomputable def subT (t c : String) : Bool := t == c || (t == "bool" && c == "int")
/-- what isinstance tells of built-in classes -/
noncomputable def Kinds (K : PySem.W.Frag) : Prop := ∀ t ∈ tys, ∀ c ∈ tys, PySem.W.kitOne K (.type t) (.type c) = some (subT t c)
theorem kinds_mk {K : PySem.W.Frag} (h : (tys.all fun t => tys.all fun c => PySem.W.kitOne K (.type t) (.type c) == some (subT t c)) = true) : Kinds K := fun t ht c hc => by
  have h1 := List.all_eq_true.mp h t ht
  have h2 := List.all_eq_true.mp h1 c hc
  exact eq_of_beq h2
theorem ty_mem {K : PySem.W.Frag} {H : Hp} {v : V} {t : Th} (h : IsTh K H v t) : tyTh t ∈ tys := by
  cases h with
  | oth _ hT _ => rcases hT with rfl | rfl <;> simp [tyTh, tys]
  | _ => simp [tyTh, tys]
theorem IsTh.isi {K : PySem.W.Frag} {H : Hp} {v : V} {t : Th} (h : IsTh K H v t) (k : Kinds K) {c : String} (hc : c ∈ tys) : PySem.W.kitOne K (.type (tyTh t)) (.type c) = some (subT (tyTh t) c) := k _ (ty_mem h) _ hc

noncomputable def nameT : Th → Bool
  | .str x => decide (GName x)
  | _ => false
noncomputable def wholeT : Th → Bool
  | .int _ => true
  | _ => false
noncomputable def choiceT : Th → Bool
  | .tup xs => decide (1 ≤ xs.length) && decide (xs.length ≤ 9) && xs.all nameT
  | _ => false
/-- the recipes within, if it has a recipe's shape -/
noncomputable def shapeT : Th → Option (List Th)
  | .tup [.str k, x] => if k = "number" then (if wholeT x = true then some [] else none) else if k = "read" then (if nameT x = true then some [] else none) else none
  | .tup [.str k, x, y] => if k = "choose" then (if choiceT y = true then some [x] else none) else if k = "plus" ∨ k = "minus" ∨ k = "times" ∨ k = "most" then some [x, y] else none
  | .tup [.str k, x, y, z] => if k = "pick" then some [x, y, z] else none
  | _ => none
noncomputable def szN : Nat → Th → Nat
  | 0, _ => 1000
  | n + 1, t => match shapeT t with
    | none => 1000
    | some ks => 1 + (ks.map (szN n)).sum
theorem szN_pos (n : Nat) (t : Th) : 1 ≤ szN n t := by
  cases n with
  | zero => simp [szN]
  | succ n =>
    unfold szN
    split <;> omega
noncomputable def withinD : List (Str × PyData) := [("number", .int 0), ("read", .int 0), ("plus", .int 2), ("minus", .int 2), ("times", .int 2), ("most", .int 2), ("pick", .int 3), ("choose", .int 1)]
/-! ### contracts -/
/-- no text within is longer than the model's line -/
inductive ShortT : Th → Prop where
  | non : ShortT .non
  | bl (b : Bool) : ShortT (.bl b)
  | int (i : Int) : ShortT (.int i)
  | str {x : Str} (h : x.length ≤ sizeLine) : ShortT (.str x)
  | tup {ts : List Th} (h : ∀ t ∈ ts, ShortT t) : ShortT (.tup ts)
  | oth (T : String) : ShortT (.oth T)
theorem ShortT.of {ts : List Th} (h : ShortT (.tup ts)) : ∀ t ∈ ts, ShortT t := by cases h; assumption
theorem ShortT.len {x : Str} (h : ShortT (.str x)) : x.length ≤ sizeLine := by cases h; assumption
noncomputable def spWhole (K : PySem.W.Frag) : Sp := fun vs H Q _ => ∃ v t, vs = [v] ∧ IsTh K H v t ∧ Q (.bl (wholeT t)) H
noncomputable def spIsName (K : PySem.W.Frag) : Sp := fun vs H Q _ => ∃ v t, vs = [v] ∧ IsTh K H v t ∧ ShortT t ∧ ∀ H', Same H H' → Q (.bl (nameT t)) H'
instance (c : Nat) : Decidable (isLow c) := by unfold isLow; exact inferInstance
theorem low_iff (c : Nat) : (!(Builtin.Str.occurrences (Str.ofString "abcdefghijklmnopqrstuvwxyz") ⟨#[c]⟩ 0 (Str.ofString "abcdefghijklmnopqrstuvwxyz").length 1).isEmpty) = decide (isLow c) := by
  rw [StrLaws.found_one, letters_cps]
  have : (c ∈ (List.range 26).map (· + 97)) ↔ isLow c := by
    rw [List.mem_map]
    unfold isLow
    constructor
    · rintro ⟨k, hk, rfl⟩
      have := List.mem_range.mp hk
      omega
    · intro h
      exact ⟨c - 97, List.mem_range.mpr (by omega), by omega⟩
  simp only [this]
noncomputable def spChoice (K : PySem.W.Frag) : Sp := fun vs H Q _ => ∃ v t, vs = [v] ∧ IsTh K H v t ∧ ShortT t ∧ ∀ H', Same H H' → Q (.bl (choiceT t)) H'
noncomputable def spShape (K : PySem.W.Frag) : Sp := fun vs H Q _ => ∃ v t, vs = [v] ∧ IsTh K H v t ∧ ShortT t ∧ ∀ H', Same H H' → Q (.bl (shapeT t).isSome) H'
noncomputable def spWithin (K : PySem.W.Frag) : Sp := fun vs H Q _ => ∃ v t ks H0, vs = [v] ∧ IsTh K H0 v t ∧ Same H0 H ∧ shapeT t = some ks ∧ ∀ a ws H', Same H H' → H' a = some (.tup ws) → IsThs K H0 ws ks → Q (.ref a) H'
noncomputable def spIsRec (K : PySem.W.Frag) : Sp := fun vs H Q _ => ∃ v t, vs = [v] ∧ IsTh K H v t ∧ ShortT t ∧ ∀ H', Same H H' → Q (.bl (decide (szN 8 t ≤ 100))) H'
theorem shape2 (k : Str) (x : Th) : shapeT (.tup [.str k, x]) = if k = "number" then (if wholeT x = true then some [] else none) else if k = "read" then (if nameT x = true then some [] else none) else none := rfl
theorem shape3 (k : Str) (x y : Th) : shapeT (.tup [.str k, x, y]) = if k = "choose" then (if choiceT y = true then some [x] else none) else if k = "plus" ∨ k = "minus" ∨ k = "times" ∨ k = "most" then some [x, y] else none := rfl
theorem shape4 (k : Str) (x y z : Th) : shapeT (.tup [.str k, x, y, z]) = if k = "pick" then some [x, y, z] else none := rfl
theorem shape_len1 {k : Str} {r : List Th} (hk : k = "number" ∨ k = "read") (h : r.length ≠ 1) : shapeT (.tup (.str k :: r)) = none := by
  rcases r with _ | ⟨x, _ | ⟨y, _ | ⟨z, _ | ⟨u, r⟩⟩⟩⟩
  · rfl
  · simp at h
  · rw [shape3]; rcases hk with rfl | rfl <;> rw [if_neg (by decide +kernel), if_neg (by decide +kernel)]
  · rw [shape4]; rcases hk with rfl | rfl <;> rw [if_neg (by decide +kernel)]
  · rfl
theorem shape_len2 {k : Str} {r : List Th} (hk : k = "choose" ∨ k = "plus" ∨ k = "minus" ∨ k = "times" ∨ k = "most") (h : r.length ≠ 2) : shapeT (.tup (.str k :: r)) = none := by
  rcases r with _ | ⟨x, _ | ⟨y, _ | ⟨z, _ | ⟨u, r⟩⟩⟩⟩
  · rfl
  · rw [shape2]; rcases hk with rfl | rfl | rfl | rfl | rfl <;> rw [if_neg (by decide +kernel), if_neg (by decide +kernel)]
  · simp at h
  · rw [shape4]; rcases hk with rfl | rfl | rfl | rfl | rfl <;> rw [if_neg (by decide +kernel)]
  · rfl
theorem shape_len3 {r : List Th} (h : r.length ≠ 3) : shapeT (.tup (.str "pick" :: r)) = none := by
  rcases r with _ | ⟨x, _ | ⟨y, _ | ⟨z, _ | ⟨u, r⟩⟩⟩⟩
  · rfl
  · rw [shape2, if_neg (by decide +kernel), if_neg (by decide +kernel)]
  · rw [shape3, if_neg (by decide +kernel), if_neg (by decide +kernel)]
  · simp at h
  · rfl
theorem shape_other {k : Str} {r : List Th} (h : k ≠ "number" ∧ k ≠ "read" ∧ k ≠ "choose" ∧ k ≠ "plus" ∧ k ≠ "minus" ∧ k ≠ "times" ∧ k ≠ "most" ∧ k ≠ "pick") : shapeT (.tup (.str k :: r)) = none := by
  obtain ⟨h1, h2, h3, h4, h5, h6, h7, h8⟩ := h
  rcases r with _ | ⟨x, _ | ⟨y, _ | ⟨z, _ | ⟨u, r⟩⟩⟩⟩
  · rfl
  · rw [shape2, if_neg h1, if_neg h2]
  · rw [shape3, if_neg h3, if_neg (by simp [h4, h5, h6, h7])]
  · rw [shape4, if_neg h8]
  · rfl
theorem shape_num (x : Th) : shapeT (.tup [.str "number", x]) = if wholeT x = true then some [] else none := by rw [shape2, if_pos rfl]
theorem shape_rd (x : Th) : shapeT (.tup [.str "read", x]) = if nameT x = true then some [] else none := by
  rw [shape2, if_neg (by decide +kernel), if_pos rfl]
theorem shape_cho (x y : Th) : shapeT (.tup [.str "choose", x, y]) = if choiceT y = true then some [x] else none := by rw [shape3, if_pos rfl]
theorem shape_op {k : Str} (hk : k = "plus" ∨ k = "minus" ∨ k = "times" ∨ k = "most") (x y : Th) : shapeT (.tup [.str k, x, y]) = some [x, y] := by
  rw [shape3, if_neg (by rcases hk with rfl | rfl | rfl | rfl <;> decide +kernel), if_pos hk]
theorem shape_pick (x y z : Th) : shapeT (.tup [.str "pick", x, y, z]) = some [x, y, z] := by rw [shape4, if_pos rfl]
noncomputable abbrev wLook (k : Str) : Option PyData := PySem.Spec.lookup (.str k) (withinD.map fun p => (PyData.str p.1, p.2))
theorem w_number : wLook "number" = some (.int 0) := by kernel_rfl
theorem w_read : wLook "read" = some (.int 0) := by kernel_rfl
theorem w_plus : wLook "plus" = some (.int 2) := by kernel_rfl
theorem w_minus : wLook "minus" = some (.int 2) := by kernel_rfl
theorem w_times : wLook "times" = some (.int 2) := by kernel_rfl
theorem w_most : wLook "most" = some (.int 2) := by kernel_rfl
theorem w_pick : wLook "pick" = some (.int 3) := by kernel_rfl
theorem w_choose : wLook "choose" = some (.int 1) := by kernel_rfl
theorem w_none {k : Str} (h : k ≠ "number" ∧ k ≠ "read" ∧ k ≠ "choose" ∧ k ≠ "plus" ∧ k ≠ "minus" ∧ k ≠ "times" ∧ k ≠ "most" ∧ k ≠ "pick") : wLook k = none := by
  obtain ⟨h1, h2, h3, h4, h5, h6, h7, h8⟩ := h
  simp only [wLook, withinD, List.map_cons, List.map_nil, PySem.Spec.lookup, PyProof.V.same_str]
  simp [Ne.symm h1, Ne.symm h2, Ne.symm h3, Ne.symm h4, Ne.symm h5, Ne.symm h6, Ne.symm h7, Ne.symm h8]
theorem shape_inv {t : Th} {ks : List Th} (h : shapeT t = some ks) : (∃ x, t = .tup [.str "number", x] ∧ ks = []) ∨ (∃ x, t = .tup [.str "read", x] ∧ ks = []) ∨ (∃ x y, t = .tup [.str "choose", x, y] ∧ ks = [x]) ∨
    (∃ (k : Str) (x y : Th), (k = "plus" ∨ k = "minus" ∨ k = "times" ∨ k = "most") ∧ t = .tup [.str k, x, y] ∧ ks = [x, y]) ∨ ∃ x y z, t = .tup [.str "pick", x, y, z] ∧ ks = [x, y, z] := by
  unfold shapeT at h
  split at h
  · rename_i k x
    split at h
    · rename_i hk
      split at h
      · cases h; exact .inl ⟨x, by rw [hk], rfl⟩
      · cases h
    · split at h
      · rename_i _ hk
        split at h
        · cases h; exact .inr (.inl ⟨x, by rw [hk], rfl⟩)
        · cases h
      · cases h
  · rename_i k x y
    split at h
    · rename_i hk
      split at h
      · cases h; exact .inr (.inr (.inl ⟨x, y, by rw [hk], rfl⟩))
      · cases h
    · split at h
      · rename_i _ hk
        cases h; exact .inr (.inr (.inr (.inl ⟨k, x, y, hk, rfl, rfl⟩)))
      · cases h
  · rename_i k x y z
    split at h
    · rename_i hk
      cases h; exact .inr (.inr (.inr (.inr ⟨x, y, z, by rw [hk], rfl⟩)))
    · cases h
  · cases h
theorem itB_t {b : Bool} {A B : Prop} (h : b = true) (hA : A) : if b = true then A else B := by rw [if_pos h]; exact hA
theorem itB_f {b : Bool} {A B : Prop} (h : b = false) (hB : B) : if b = true then A else B := by rw [if_neg (by rw [h]; exact Bool.false_ne_true)]; exact hB
theorem op_isSome {k : Str} (hk : k = "plus" ∨ k = "minus" ∨ k = "times" ∨ k = "most") {ts : List Th} {x : V} {vs : List V} (hl : vs.length = ts.length) : (shapeT (.tup (.str k :: ts))).isSome = decide (V.int (((x :: vs).length : Nat) : Int) = V.int (1 + 2)) := by
  by_cases h : ts.length = 2
  · rcases ts with _ | ⟨a, _ | ⟨b, _ | ⟨c, r⟩⟩⟩
    · simp at h
    · simp at h
    · rw [shape_op hk, decide_eq_true]
      · rfl
      · rw [List.length_cons, hl]; rfl
    · simp at h
  · rw [shape_len2 (.inr hk) h, decide_eq_false]
    · rfl
    · intro z
      have := V.int.inj z
      simp at this
      omega
theorem pick_isSome {ts : List Th} {x : V} {vs : List V} (hl : vs.length = ts.length) : (shapeT (.tup (.str "pick" :: ts))).isSome = decide (V.int (((x :: vs).length : Nat) : Int) = V.int (1 + 3)) := by
  by_cases h : ts.length = 3
  · rcases ts with _ | ⟨a, _ | ⟨b, _ | ⟨c, _ | ⟨d, r⟩⟩⟩⟩
    · simp at h
    · simp at h
    · simp at h
    · rw [shape_pick, decide_eq_true]
      · rfl
      · rw [List.length_cons, hl]; rfl
    · simp at h
  · rw [shape_len3 h, decide_eq_false]
    · rfl
    · intro z
      have := V.int.inj z
      simp at this
      omega
theorem len_of {x : V} {vs : List V} {n : Int} : (V.int (((x :: vs).length : Nat) : Int) = V.int n) ↔ (vs.length : Int) = n - 1 := by
  constructor
  · intro z
    have := V.int.inj z
    simp at this
    omega
  · intro z
    congr 1
    simp
    omega
theorem kids_short {t : Th} {ks : List Th} (h : shapeT t = some ks) (s : ShortT t) : ∀ k ∈ ks, ShortT k := by
  rcases shape_inv h with ⟨x, rfl, rfl⟩ | ⟨x, rfl, rfl⟩ | ⟨x, y, rfl, rfl⟩ | ⟨k, x, y, _, rfl, rfl⟩ | ⟨x, y, z, rfl, rfl⟩
  · simp
  · simp
  · intro k hk; exact s.of k (by simp at hk; simp [hk])
  · intro k' hk; exact s.of k' (by simp at hk; rcases hk with rfl | rfl <;> simp)
  · intro k' hk; exact s.of k' (by simp at hk; rcases hk with rfl | rfl | rfl <;> simp)
theorem kids_le {t : Th} {ks : List Th} (h : shapeT t = some ks) : ks.length ≤ 3 := by
  rcases shape_inv h with ⟨x, rfl, rfl⟩ | ⟨x, rfl, rfl⟩ | ⟨x, y, rfl, rfl⟩ | ⟨k, x, y, _, rfl, rfl⟩ | ⟨x, y, z, rfl, rfl⟩ <;> simp
/-- one row of the list of what is to do: its tuple, the thing, what it is, its depth -/
structure Job where
  a : Addr
  v : V
  t : Th
  d : Nat
structure JOk (K : PySem.W.Frag) (H0 H : Hp) (j : Job) : Prop where
  e : H j.a = some (.tup [j.v, .int j.d])
  i : IsTh K H0 j.v j.t
  s : ShortT j.t
  lo : 1 ≤ j.d
  hi : j.d ≤ 9
noncomputable def sumJ (js : List Job) : Nat := (js.map fun j => szN (9 - j.d) j.t).sum
theorem sumJ_snoc (js : List Job) (j : Job) : sumJ (js ++ [j]) = sumJ js + szN (9 - j.d) j.t := by
  unfold sumJ
  rw [List.map_append, List.sum_append]
  simp
theorem JOk.tups {K : PySem.W.Frag} {H0 H H' : Hp} (s : Tups H H') {j : Job} (h : JOk K H0 H j) : JOk K H0 H' j := ⟨s _ _ h.e, h.i, h.s, h.lo, h.hi⟩
theorem szN_some {d : Nat} {t : Th} {ks : List Th} (hd : d ≤ 8) (h : shapeT t = some ks) : szN (9 - d) t = 1 + (ks.map (szN (8 - d))).sum := by
  have e : 9 - d = (8 - d) + 1 := by omega
  rw [e]
  show (match shapeT t with | none => 1000 | some ks => 1 + (ks.map (szN (8 - d))).sum) = _
  rw [h]
theorem szN_none {d : Nat} {t : Th} (h : shapeT t = none) : 1000 ≤ szN d t := by
  cases d with
  | zero => exact Nat.le_refl _
  | succ d =>
    show 1000 ≤ (match shapeT t with | none => 1000 | some ks => 1 + (ks.map (szN d)).sum)
    rw [h]
    exact Nat.le_refl _
theorem Tups.trans {H H1 H2 : Hp} (a : Tups H H1) (b : Tups H1 H2) : Tups H H2 := fun c xs h => b c xs (a c xs h)
/-- an invariant that the stepping leaves alone -/
structure Wr (p : Prop) : Prop where
  h : p
end RB

set_option maxRecDepth 100000
namespace RB
open PySem L2 PySem.Spec PyProof.Rows
/-! ### recipes whose read names may be none -/
noncomputable def R.toTh : R → Th
  | .num n => .tup [.str "number", .int n]
  | .rd x => .tup [.str "read", .str x]
  | .bin op a b => .tup [.str op.word, a.toTh, b.toTh]
  | .pick a b c => .tup [.str "pick", a.toTh, b.toTh, c.toTh]
  | .cho a ns => .tup [.str "choose", a.toTh, .tup (ns.map Th.str)]
noncomputable def R.Fine : R → Prop
  | .num _ => True
  | .rd x => x.length ≤ 8 ∧ ∀ c ∈ x.cps.toList, c < 128
  | .bin _ a b => a.Fine ∧ b.Fine
  | .pick a b c => a.Fine ∧ b.Fine ∧ c.Fine
  | .cho a ns => a.Fine ∧ 1 ≤ ns.length ∧ ns.length ≤ 9 ∧ ∀ x ∈ ns, GName x
theorem strs_isThs {K : PySem.W.Frag} {H : Hp} : ∀ ns : List Str, IsThs K H (ns.map V.str) (ns.map Th.str)
  | [] => .nil
  | x :: r => .cons (.str x) (strs_isThs r)
theorem IsR.isTh {K : PySem.W.Frag} {H : Hp} {a : Addr} {r : R} (h : IsR H a r) : IsTh K H (.ref a) r.toTh := by
  induction h with
  | num e => exact .tup e (.cons (.str _) (.cons (.int _) .nil))
  | rd e => exact .tup e (.cons (.str _) (.cons (.str _) .nil))
  | bin e _ _ i1 i2 => exact .tup e (.cons (.str _) (.cons i1 (.cons i2 .nil)))
  | pick e _ _ _ i1 i2 i3 => exact .tup e (.cons (.str _) (.cons i1 (.cons i2 (.cons i3 .nil))))
  | cho e _ h2 i1 => exact .tup e (.cons (.str _) (.cons i1 (.cons (.tup h2 (strs_isThs _)) .nil)))
theorem line8 {n : Nat} (h : n ≤ 8) : n ≤ sizeLine := Nat.le_of_lt (small1000 (by omega))
theorem short_str {x : Str} (h : x.length ≤ 8) : ShortT (.str x) := .str (line8 h)
theorem word_len (op : Op) : op.word.length ≤ 8 := by cases op <;> decide +kernel
theorem R.short : ∀ (r : R), r.Fine → ShortT r.toTh
  | .num n, _ => .tup fun t ht => by
    rcases List.mem_cons.mp ht with rfl | ht
    · exact short_str (by decide +kernel)
    · have : t = .int n := by simpa using ht
      subst this; exact .int n
  | .rd x, h => .tup fun t ht => by
    rcases List.mem_cons.mp ht with rfl | ht
    · exact short_str (by decide +kernel)
    · have : t = .str x := by simpa using ht
      subst this; exact short_str h.1
  | .bin op a b, h => .tup fun t ht => by
    rcases List.mem_cons.mp ht with rfl | ht
    · exact short_str (word_len op)
    · rcases List.mem_cons.mp ht with rfl | ht
      · exact R.short a h.1
      · have : t = b.toTh := by simpa using ht
        subst this; exact R.short b h.2
  | .pick a b c, h => .tup fun t ht => by
    rcases List.mem_cons.mp ht with rfl | ht
    · exact short_str (by decide +kernel)
    · rcases List.mem_cons.mp ht with rfl | ht
      · exact R.short a h.1
      · rcases List.mem_cons.mp ht with rfl | ht
        · exact R.short b h.2.1
        · have : t = c.toTh := by simpa using ht
          subst this; exact R.short c h.2.2
  | .cho a ns, h => .tup fun t ht => by
    rcases List.mem_cons.mp ht with rfl | ht
    · exact short_str (by decide +kernel)
    · rcases List.mem_cons.mp ht with rfl | ht
      · exact R.short a h.1
      · have : t = .tup (ns.map Th.str) := by simpa using ht
        subst this
        refine .tup fun t ht => ?_
        obtain ⟨x, hx, rfl⟩ := List.mem_map.mp ht
        exact short_str (h.2.2.2 x hx).2.1
theorem choice_ok {ns : List Str} (h1 : 1 ≤ ns.length) (h2 : ns.length ≤ 9) (h : ∀ x ∈ ns, GName x) : choiceT (.tup (ns.map Th.str)) = true := by
  show (decide (1 ≤ (ns.map Th.str).length) && decide ((ns.map Th.str).length ≤ 9) && (ns.map Th.str).all nameT) = true
  rw [List.length_map, decide_eq_true h1, decide_eq_true h2, List.all_map]
  simp only [Bool.true_and, List.all_eq_true]
  intro x hx
  exact decide_eq_true (h x hx)
/-- the recipes within, if it is one's shape -/
noncomputable def R.kids : R → Option (List R)
  | .num _ => some []
  | .rd x => if GName x then some [] else none
  | .bin _ a b => some [a, b]
  | .pick a b c => some [a, b, c]
  | .cho a _ => some [a]
theorem R.shape (r : R) (h : r.Fine) : shapeT r.toTh = (r.kids).map (·.map R.toTh) := by
  cases r with
  | num n => exact (shape_num _).trans (by rfl)
  | rd x =>
    refine (shape_rd _).trans ?_
    show (if decide (GName x) = true then some [] else none) = Option.map _ (if GName x then some [] else none)
    by_cases g : GName x
    · rw [if_pos (decide_eq_true g), if_pos g]; rfl
    · rw [if_neg (by simpa using g), if_neg g]; rfl
  | bin op a b => exact (shape_op (by cases op <;> simp [Op.word]) _ _).trans (by rfl)
  | pick a b c => exact (shape_pick _ _ _).trans (by rfl)
  | cho a ns => exact (shape_cho _ _).trans (by rw [if_pos (choice_ok h.2.1 h.2.2.1 h.2.2.2)]; rfl)
noncomputable def szR (n : Nat) (r : R) : Nat := szN n r.toTh
theorem szR_succ (n : Nat) (r : R) (h : r.Fine) : szR (n + 1) r = match r.kids with | none => 1000 | some ks => 1 + (ks.map (szR n)).sum := by
  show (match shapeT r.toTh with | none => 1000 | some ks => 1 + (ks.map (szN n)).sum) = _
  rw [r.shape h]
  cases r.kids with
  | none => rfl
  | some ks =>
    show 1 + ((ks.map R.toTh).map (szN n)).sum = _
    rw [List.map_map]
    rfl
theorem depth_strs : ∀ l : List Str, PyData.depthAll (l.map PyData.str) ≤ 1
  | [] => by simp [PyData.depthAll]
  | c :: r => by
    have := depth_strs r
    simp [PyData.depthAll, PyData.depth]
    omega
end RB

set_option maxRecDepth 100000
namespace L2
open PySem PySem.Spec PyProof.Rows
theorem Fun.okQ {P : Program} {w : World} {K : PySem.W.Frag} {mg : Str → Option Value} {base : Heap} {x qual : Str} {st : Stmt} {f : Addr} {fd : FuncData} {N ps : List Str} {k : Nat} {sp : Sp} (F : Fun K x qual st f fd) (S : FnScope N ps (defScope st)) (len : ∀ vs H Q E, sp vs H Q E → vs.length = ps.length)
    (hbody : ∀ (cdv : Value) (A : Around) (outer : List Env) (s : Shared) (H : Hp) (vs : List V) (Q : VK) (E : XK), Room k (A.deeper (envOfC qual (defScope st) s.heap.objs.size f cdv)) → sp vs H Q E →
      ∃ t, QSs (cxOf CX0 P w K mg base N qual (defScope st) f cdv A outer s H E).nox (defBody st) t ∧ t { nx := fun _ H' => Q .non H', rt := Q } (start N vs) H) : FnOk P w K mg base CX0 (k + 1) f fd ps sp :=
  F.ok S len fun cdv A outer s H vs Q E hr hsp => let ⟨t, a, b⟩ := hbody cdv A outer s H vs Q E hr hsp; ⟨t, a.h, b⟩
end L2
namespace RB
open PySem L2 PySem.Spec PyProof.Rows
/-! ### the parts of a display or a call, by their kinds: the star's row is not reckoned anew for each -/
theorem star_C (value : Const) (k : Nat) (p : Pos) (es : List Expr) (env : Env) : starEach (.Constant value k p :: es) env = (false, eval (.Constant value k p) env) :: starEach es env := rfl
theorem qa_C {X : Cx} {value : Const} {k : Nat} {p : Pos} {es : List Expr} {te : TE} {t : TA} (ha : QE X (.Constant value k p) te) (hr : QA X es t) : QA X (.Constant value k p :: es) (tCons te t) := qa_cons ha hr (star_C value k p _ _)
theorem star_N (x : Str) (p : Pos) (es : List Expr) (env : Env) : starEach (.Name x p :: es) env = (false, eval (.Name x p) env) :: starEach es env := rfl
theorem qa_N {X : Cx} {x : Str} {p : Pos} {es : List Expr} {te : TE} {t : TA} (ha : QE X (.Name x p) te) (hr : QA X es t) : QA X (.Name x p :: es) (tCons te t) := qa_cons ha hr (star_N x p _ _)
theorem star_B (a : Expr) (op : Operator) (b : Expr) (p : Pos) (es : List Expr) (env : Env) : starEach (.BinOp a op b p :: es) env = (false, eval (.BinOp a op b p) env) :: starEach es env := rfl
theorem qa_B {X : Cx} {a : Expr} {op : Operator} {b : Expr} {p : Pos} {es : List Expr} {te : TE} {t : TA} (ha : QE X (.BinOp a op b p) te) (hr : QA X es t) : QA X (.BinOp a op b p :: es) (tCons te t) := qa_cons ha hr (star_B a op b p _ _)
theorem star_U (op : UnaryOp) (a : Expr) (p : Pos) (es : List Expr) (env : Env) : starEach (.UnaryOp op a p :: es) env = (false, eval (.UnaryOp op a p) env) :: starEach es env := rfl
theorem qa_U {X : Cx} {op : UnaryOp} {a : Expr} {p : Pos} {es : List Expr} {te : TE} {t : TA} (ha : QE X (.UnaryOp op a p) te) (hr : QA X es t) : QA X (.UnaryOp op a p :: es) (tCons te t) := qa_cons ha hr (star_U op a p _ _)
theorem star_T (xs : List Expr) (k : Nat) (p : Pos) (es : List Expr) (env : Env) : starEach (.Tuple xs k p :: es) env = (false, eval (.Tuple xs k p) env) :: starEach es env := rfl
theorem qa_T {X : Cx} {xs : List Expr} {k : Nat} {p : Pos} {es : List Expr} {te : TE} {t : TA} (ha : QE X (.Tuple xs k p) te) (hr : QA X es t) : QA X (.Tuple xs k p :: es) (tCons te t) := qa_cons ha hr (star_T xs k p _ _)
theorem star_S (a b : Expr) (p : Pos) (es : List Expr) (env : Env) : starEach (.Subscript a b p :: es) env = (false, eval (.Subscript a b p) env) :: starEach es env := rfl
theorem qa_S {X : Cx} {a b : Expr} {p : Pos} {es : List Expr} {te : TE} {t : TA} (ha : QE X (.Subscript a b p) te) (hr : QA X es t) : QA X (.Subscript a b p :: es) (tCons te t) := qa_cons ha hr (star_S a b p _ _)
theorem star_F (f : Expr) (xs : List Expr) (ks : List Keyword) (p : Pos) (es : List Expr) (env : Env) : starEach (.Call f xs ks p :: es) env = (false, eval (.Call f xs ks p) env) :: starEach es env := rfl
theorem qa_F {X : Cx} {f : Expr} {xs : List Expr} {ks : List Keyword} {p : Pos} {es : List Expr} {te : TE} {t : TA} (ha : QE X (.Call f xs ks p) te) (hr : QA X es t) : QA X (.Call f xs ks p :: es) (tCons te t) := qa_cons ha hr (star_F f xs ks p _ _)
theorem star_M (e : Expr) (gs : List Comprehension) (sc : Scope) (p : Pos) (es : List Expr) (env : Env) : starEach (.ListComp e gs sc p :: es) env = (false, eval (.ListComp e gs sc p) env) :: starEach es env := rfl
theorem qa_M {X : Cx} {e : Expr} {gs : List Comprehension} {sc : Scope} {p : Pos} {es : List Expr} {te : TE} {t : TA} (ha : QE X (.ListComp e gs sc p) te) (hr : QA X es t) : QA X (.ListComp e gs sc p :: es) (tCons te t) := qa_cons ha hr (star_M e gs sc p _ _)
end RB

set_option maxRecDepth 100000
namespace RB
open PySem L2 PySem.Spec PyProof.Rows
/-! ### a list held against [] -/

/-! ### things whose texts are short and plain -/

/-! ### things while the lists at S may be changed -/

/-! ### how many recipes -/
noncomputable def R.nodes : R → Nat
  | .num _ => 1
  | .rd _ => 1
  | .bin _ a b => 1 + a.nodes + b.nodes
  | .pick a b c => 1 + a.nodes + b.nodes + c.nodes
  | .cho a _ => 1 + a.nodes
theorem good_fine : ∀ {r : R}, r.Good → r.Fine
  | .num _, _ => trivial
  | .rd x, h => ⟨h.2.1, fun c hc => by have := h.2.2 c hc; unfold isLow at this; omega⟩
  | .bin _ a b, h => ⟨good_fine h.1, good_fine h.2⟩
  | .pick a b c, h => ⟨good_fine h.1, good_fine h.2.1, good_fine h.2.2⟩
  | .cho a ns, h => ⟨good_fine h.1, h.2⟩
theorem szR_nodes : ∀ (n : Nat) (r : R), r.Good → r.depth ≤ n → szR n r = r.nodes
  | 0, r, _, hd => absurd r.depth_pos (by omega)
  | n + 1, r, h, hd => by
    rw [szR_succ n r (good_fine h)]
    cases r with
    | num _ => rfl
    | rd x =>
      show (match (if GName x then some [] else none : Option (List R)) with | none => 1000 | some ks => 1 + (ks.map (szR n)).sum) = 1
      rw [if_pos (show GName x from h)]; rfl
    | bin op a b =>
      have hd' : max a.depth b.depth + 1 ≤ n + 1 := hd
      show 1 + ([a, b].map (szR n)).sum = 1 + a.nodes + b.nodes
      simp [szR_nodes n a h.1 (by omega), szR_nodes n b h.2 (by omega)]
      omega
    | pick a b c =>
      have hd' : max a.depth (max b.depth c.depth) + 1 ≤ n + 1 := hd
      show 1 + ([a, b, c].map (szR n)).sum = 1 + a.nodes + b.nodes + c.nodes
      simp [szR_nodes n a h.1 (by omega), szR_nodes n b h.2.1 (by omega), szR_nodes n c h.2.2 (by omega)]
      omega
    | cho a ns =>
      have hd' : a.depth + 1 ≤ n + 1 := hd
      show 1 + ([a].map (szR n)).sum = 1 + a.nodes
      simp [szR_nodes n a h.1 (by omega)]
/-! ### contracts of the law's own words over any thing -/
end RB

set_option maxRecDepth 100000
namespace L2
open PySem PySem.Spec PyProof.Rows
section
variable {X : Cx} {pins : List (Addr × Obj)} {σ : L2.St} {H : Hp} {s : Shared}
/-! ### texts: startswith from a place, a slice, the number that is written -/
end
/-! ### own objects -/
section
variable {X : Cx} {o e value : Expr} {es : List Expr} {f m : Str} {pos pos' apos : Pos} {ta tv : TE} {t : TA} {C fa : Addr} {CX : CXT} {k : Nat} {fd : FuncData} {ps : List Str} {sp : Sp} {dvs : List V} {ds : List Value} {E : XK}
end
end L2

set_option maxRecDepth 100000
namespace RB
open PySem L2 PySem.Spec PyProof.Rows
/-! ### a reader: its text and its place -/
end RB

set_option maxRecDepth 100000
namespace RB
open PySem L2 PySem.Spec PyProof.Rows
/-! ### the figures of a number -/
theorem lenL (x : Str) : x.cps.toList.length = x.length := by simp [Str.length]
end RB

set_option maxRecDepth 100000
namespace RB
open PySem L2 PySem.Spec PyProof.Rows
end RB

set_option maxRecDepth 100000
namespace RB
open PySem L2 PySem.Spec PyProof.Rows
/-! ### a recipe's core and the choices behind it -/
end RB

set_option maxRecDepth 100000
namespace RB
open PySem L2 PySem.Spec PyProof.Rows
theorem nodes100 {r : R} (hg : r.Good) (hd : r.depth ≤ 8) (hn : r.nodes ≤ 100) : decide (szN 8 r.toTh ≤ 100) = true := decide_eq_true (by
  have e := szR_nodes 8 r hg hd
  have e' : szR 8 r = szN 8 r.toTh := rfl
  omega)
end RB

set_option maxRecDepth 100000
namespace RB
open PySem L2 PySem.Spec PyProof.Rows
/-! ### rows of recipes, with their weight -/
end RB

set_option maxRecDepth 100000
namespace RB
open PySem L2 PySem.Spec PyProof.Rows
/-! ### recipes as data -/
noncomputable def R.dat : R → PyData
  | .num n => .tuple [.str "number", .int n]
  | .rd x => .tuple [.str "read", .str x]
  | .bin op a b => .tuple [.str op.word, a.dat, b.dat]
  | .pick a b c => .tuple [.str "pick", a.dat, b.dat, c.dat]
  | .cho a ns => .tuple [.str "choose", a.dat, .tuple (ns.map PyData.str)]
theorem IsR.dat {K : PySem.W.Frag} {H : Hp} {a : Addr} {r : R} (h : IsR H a r) : DatV K H (.ref a) r.dat := by
  induction h with
  | num e => exact .tup (SqT.of e) (.cons (.str _) (.cons (.int _) .nil))
  | rd e => exact .tup (SqT.of e) (.cons (.str _) (.cons (.str _) .nil))
  | bin e _ _ i1 i2 => exact .tup (SqT.of e) (.cons (.str _) (.cons i1 (.cons i2 .nil)))
  | pick e _ _ _ i1 i2 i3 => exact .tup (SqT.of e) (.cons (.str _) (.cons i1 (.cons i2 (.cons i3 .nil))))
  | cho e _ h2 i1 => exact .tup (SqT.of e) (.cons (.str _) (.cons i1 (.cons (.tup (SqT.of h2) (datVs_strs _)) .nil)))
theorem strOk_low {x : Str} (h : ∀ c ∈ x.cps.toList, c < 128) : PyData.strOk x = true := by
  show x.cps.all (· < 0x110000) = true
  rw [← Array.all_toList, List.all_eq_true]
  intro c hc
  exact decide_eq_true (by have := h c hc; omega)
theorem strOk_name {x : Str} (h : GName x) : PyData.strOk x = true := strOk_low fun c hc => by have := h.2.2 c hc; unfold isLow at this; omega
theorem strOk_word (op : Op) : PyData.strOk op.word = true := by cases op <;> decide +kernel
theorem lay_names : ∀ ns : List Str, (∀ x ∈ ns, GName x) → PyData.canLayAll0 (ns.map PyData.str) = true
  | [], _ => rfl
  | x :: r, h => by
    show (PyData.canLay0 (.str x) && PyData.canLayAll0 (r.map PyData.str)) = true
    rw [lay_names r fun y hy => h y (List.mem_cons_of_mem _ hy)]
    show (PyData.strOk x && true) = true
    rw [strOk_name (h x List.mem_cons_self)]; rfl
theorem R.lay : ∀ r : R, r.Good → r.dat.canLay0 = true
  | .num n, _ => by show (PyData.strOk "number" && (true && true)) = true; decide +kernel
  | .rd x, h => by
    show (PyData.strOk "read" && (PyData.strOk x && true)) = true
    rw [strOk_name h]; decide +kernel
  | .bin op a b, h => by
    show (PyData.strOk op.word && (a.dat.canLay0 && (b.dat.canLay0 && true))) = true
    rw [strOk_word, R.lay a h.1, R.lay b h.2]; rfl
  | .pick a b c, h => by
    show (PyData.strOk "pick" && (a.dat.canLay0 && (b.dat.canLay0 && (c.dat.canLay0 && true)))) = true
    rw [R.lay a h.1, R.lay b h.2.1, R.lay c h.2.2]; decide +kernel
  | .cho a ns, h => by
    show (PyData.strOk "choose" && (a.dat.canLay0 && (PyData.canLayAll0 (ns.map PyData.str) && true))) = true
    rw [R.lay a h.1, lay_names ns h.2.2.2]; decide +kernel
theorem R.dat_depth : ∀ r : R, r.dat.depth ≤ r.depth + 2
  | .num n => by simp [R.dat, R.depth, PyData.depth, PyData.depthAll]
  | .rd x => by simp [R.dat, R.depth, PyData.depth, PyData.depthAll]
  | .bin op a b => by
    have := R.dat_depth a
    have := R.dat_depth b
    simp only [R.dat, R.depth, PyData.depth, PyData.depthAll]; omega
  | .pick a b c => by
    have := R.dat_depth a
    have := R.dat_depth b
    have := R.dat_depth c
    simp only [R.dat, R.depth, PyData.depth, PyData.depthAll]; omega
  | .cho a ns => by
    have := R.dat_depth a
    have := depth_strs ns
    have := a.depth_pos
    simp only [R.dat, R.depth, PyData.depth, PyData.depthAll]; omega
/-- two things that are the same data -/
noncomputable def rSame (K : PySem.W.Frag) (neg : Bool) : R2 := fun x y H Q => ∃ d, DatV K H x d ∧ DatV K H y d ∧ SeqAt.shaped d = true ∧ Q (.bl (!neg)) H
theorem shaped_lay {d : PyData} (h : SeqAt.shaped d = true) : d.canLay0 = true := by
  have h' : (d.canLay0 && decide (d.depth ≤ 64)) = true := h
  rw [Bool.and_eq_true] at h'
  exact h'.1
theorem qop_eqSame {X : Cx} (hu : X.A.units + 64 < cLine) : QOp X (compareOp .Eq) (rSame X.K false) := ⟨fun pins s σ H x y v u Q I rx ry h => by
  obtain ⟨d, h1, h2, h3, q⟩ := h
  have e := PySem.SeqAt.eqv_refl d (shaped_lay h3)
  exact op_eqD hu pins s σ H x y v u Q I rx ry ⟨d, d, h1, h2, h3, h3, by rw [e]; exact q⟩⟩
theorem qop_neSame {X : Cx} (hu : X.A.units + 64 < cLine) : QOp X (compareOp .NotEq) (rSame X.K true) := ⟨fun pins s σ H x y v u Q I rx ry h => by
  obtain ⟨d, h1, h2, h3, q⟩ := h
  have e := PySem.SeqAt.eqv_refl d (shaped_lay h3)
  exact op_neD hu pins s σ H x y v u Q I rx ry ⟨d, d, h1, h2, h3, h3, by rw [e]; exact q⟩⟩
end RB

set_option maxRecDepth 100000
namespace L2
open PySem PySem.Spec PyProof.Rows
/-! ### an exception that flies -/
theorem ObjOk.some {P : Program} {w : World} {H : Hp} {h : Heap} {a : Addr} {o : HO} (x : ObjOk P w H h a o) : ∃ u, h.get? a = Option.some u := by
  cases o with
  | lst xs => obtain ⟨_, _, _, _, e⟩ := x; exact ⟨_, e⟩
  | tup xs => obtain ⟨_, _, _, _, e, _⟩ := x; exact ⟨_, e⟩
  | dK kvs => obtain ⟨_, _, _, _, o, _, _, e, _⟩ := x; exact ⟨_, e⟩
  | dT kvs => obtain ⟨_, _, _, _, o, _, _, e, _⟩ := x; exact ⟨_, e⟩
  | set S n => obtain ⟨o, _, _, _, e, _⟩ := x; exact ⟨_, e⟩
  | ins C dx fs => obtain ⟨_, _, _, e, _⟩ := x; exact ⟨_, e⟩
  | own y => exact x
  | xd fs => obtain ⟨_, ⟨_, _, _, e, _⟩, _⟩ := x; exact ⟨_, e⟩
  | rng lo hi => obtain ⟨_, _, _, e⟩ := x; exact ⟨_, e⟩
  | frz ob u => obtain ⟨e, _⟩ := x; exact ⟨_, e⟩
  | tbl ps => exact ⟨_, show h.get? a = Option.some _ from x⟩
  | met f y => exact ⟨_, show h.get? a = Option.some _ from x⟩
  | ext φ => obtain ⟨_, e, _⟩ := x; exact e
/-- what is held of the heap behind B: what stood at the entry, and what is tracked, but the frames F -/
noncomputable def Holds (F : List Addr) (H' : Hp) (h h1 B : Heap) : Prop := ∀ b o, h1.get? b = some o → b ∉ F → ((∃ o0, h.get? b = some o0) ∨ (H' b).isSome = true) → B.get? b = some o
theorem un_up {F : List Addr} {H H' : Hp} {h h1 h2 B : Heap} (u : Un F [] H H' h h1) (hF : ∀ b ∈ F, ∃ o, h.get? b = some o ∧ H b = none ∧ ∀ vs, o.data ≠ .fields vs) (st : B.StaysIn h2) (up : h1.UpToSlots h2) (kc : Holds F H' h h1 B) : Un F [] H H' h h2 where
  keep := fun b o q n hb hx => st b o (kc b o (u.keep b o q n hb hx) hb (.inl ⟨o, q⟩))
  slot := fun b o q n hb hx => by
    obtain ⟨sl, e⟩ := u.slot b o q n hb hx
    obtain ⟨o', q', _, d⟩ := hF b hb
    rw [q] at q'; cases q'
    obtain ⟨sl2, e2⟩ := up b _ e d
    exact ⟨sl2, e2⟩
  free := u.free
  there := fun b o q hx => by
    by_cases hb : b ∈ F
    · obtain ⟨o', q', n, d⟩ := hF b hb
      rw [q] at q'; cases q'
      obtain ⟨sl, e⟩ := u.slot b o q n hb hx
      obtain ⟨sl2, e2⟩ := up b _ e d
      exact ⟨_, e2⟩
    · obtain ⟨o', e⟩ := u.there b o q hx
      exact ⟨o', st b o' (kc b o' e hb (.inl ⟨o, q⟩))⟩
  tups := u.tups
  frzs := u.frzs
  tbls := u.tbls
theorem hok_up {P : Program} {w : World} {F : List Addr} {H' : Hp} {h h1 h2 B : Heap} (ok : HOk P w H' h1) (hF : ∀ b ∈ F, H' b = none) (st : B.StaysIn h2) (kc : Holds F H' h h1 B) : HOk P w H' h2 := fun b o q =>
  (ok b o q).stay (fun c v hc r => by
    have hs : (H' c).isSome = true := by
      rcases hc with rfl | hc
      · rw [q]; rfl
      · rw [hc]; rfl
    exact st c v (kc c v r (fun hm => by rw [hF c hm] at hs; cases hs) (.inr hs))) (fun _ z => z) fun _ _ z => z
structure Fly (P : Program) (w : World) (outer : List Env) (H : Hp) (s : Shared) (a : Addr) (cls : Value) (H' : Hp) (s' : Shared) : Prop where
  os : s'.os = s.os
  bare : AllBare s'.gens
  un : Un (frs outer) [] H H' s.heap s'.heap
  hok : HOk P w H' s'.heap
  free : H' a = none
  fly : ∃ (B : Heap) (a0 : Value), Heap.FlyingW B outer a cls a0 s'.heap ∧ Holds (frs outer) H' s.heap s'.heap B
/-- how an exception lies behind a call -/
noncomputable def CXx (P : Program) (w : World) : CXT := fun outer H s E e s' => ∃ a cls H', e = .ref a ∧ Fly P w outer H s a cls H' s' ∧ E cls none H'
section
variable {X : Cx} {pins : List (Addr × Obj)} {σ : St} {H H' : Hp} {s s' : Shared} {a : Addr} {cls : Value}
theorem Inv.frm (I : Inv X pins σ H s) : ∀ b ∈ frs X.stack, ∃ o, s.heap.get? b = some o ∧ H b = none ∧ ∀ vs, o.data ≠ .fields vs := fun b hb => by
  obtain ⟨_, o, ho, hd⟩ := I.stack.mem hb
  exact ⟨o, ho, I.stkFree b hb, hd⟩
/-- the state as it was, but what is new -/
theorem Inv.landed (I : Inv X pins σ H s) (os : s'.os = s.os) (bare : AllBare s'.gens) (un : Un (frs X.stack) [] H H' s.heap s'.heap) (hok : HOk X.prog X.w H' s'.heap) {B h2 : Heap} (kc : Holds (frs X.stack) H' s.heap s'.heap B) (st : B.StaysIn h2) (up : s'.heap.UpToSlots h2) :
    Inv X pins σ H' { s' with heap := h2 } := by
  have hF := I.frm
  refine I.call' (ch := []) (s' := { s' with heap := h2 }) os (un_up un hF st up kc) (hok_up hok (fun b hb => ?_) st kc) bare fun b z => absurd z (by simp)
  obtain ⟨o, q, n, _⟩ := hF b hb
  exact un.free b o q n (by simp)
theorem Fly.land (F : Fly X.prog X.w X.stack H s a cls H' s') (I : Inv X pins σ H s) {B h2 : Heap} (kc : Holds (frs X.stack) H' s.heap s'.heap B) (st : B.StaysIn h2) (up : s'.heap.UpToSlots h2) : Inv X pins σ H' { s' with heap := h2 } :=
  I.landed F.os F.bare F.un F.hok kc st up
theorem holds_up {F : List Addr} {B h1 h2 : Heap} {h : Heap} (u : Un F [] H H' h h1) (hok : HOk X.prog X.w H' h1) (st : B.StaysIn h2) (kc : Holds F H' h h1 B) : Holds F H' h h2 B := fun b o q nb hb => by
  obtain ⟨o1, q1⟩ : ∃ o1, h1.get? b = some o1 := by
    rcases hb with ⟨o0, z⟩ | z
    · exact u.there b o0 z (by simp)
    · obtain ⟨v, hv⟩ := Option.isSome_iff_exists.mp z
      exact (hok b v hv).some
  have e1 := kc b o1 q1 nb hb
  have e2 := st b o1 e1
  rw [q] at e2; cases e2
  exact e1
end
section
variable {P : Program} {w : World} {K : PySem.W.Frag} {mg : Str → Option Value} {base : Heap} {N : List Str} {qual : Str} {scope : Scope} {f : Addr} {cd : Value} {A : Around} {outer : List Env} {s₀ : Shared} {H₀ : Hp} {E : XK}
theorem holds_out {X : Cx} {pins : List (Addr × Obj)} {σ : St} {H H' : Hp} {s : Shared} {h2 B : Heap} (hX : X.ex = []) (hst : X.stack = X.env :: X.outer) (hf : X.env.frame = some X.env.locals) (I : Inv X pins σ H s) (kc : Holds (frs X.stack) H' s.heap h2 B) (fr : H' X.env.locals = none) : Holds (frs X.outer) H' X.s₀.heap h2 B := fun b o q nb hb => by
  have nL : b ≠ X.env.locals := by
    rcases hb with ⟨o0, z⟩ | z
    · exact Nat.ne_of_lt (Nat.lt_of_lt_of_le (Heap.lt_size z) I.ok.above)
    · intro e; rw [e, fr] at z; cases z
  refine kc b o q ?_ ?_
  · intro hm
    rw [hst] at hm
    unfold frs at hm
    rw [List.filterMap_cons, hf] at hm
    rcases List.mem_cons.mp hm with e | e
    · exact nL e
    · exact nb e
  · rcases hb with ⟨o0, z⟩ | z
    · exact .inl (I.base.there b o0 z (by rw [hX]; simp))
    · exact .inr z
/-- an own class of exceptions, over ValueError, without an __init__ of its own -/
structure ExC (K : PySem.W.Frag) (C : Addr) : Prop where
  obj : ∃ nm q N bs bm hdct sn sub ab col dd k0 k1 k2 k3 k5, K.lookup C = some (excClassObj nm q C N bs bm hdct sn sub ab col dd k0 k1 k2 k3 k5 "ValueError.__new__") ∧ PySem.W.nsOkIn K N = true ∧ PySem.W.nsIn K N "__init__" = some none ∧
    PySem.W.tailIn K [.type "ValueError", .type "Exception", .type "BaseException", .type "object"] bm = true
noncomputable def tRaise (C : Addr) (E : XK) (t : TA) : TS := fun _ σ H => t σ H fun vs H1 => vs.length ≤ sizeLine ∧ E (.ref C) none H1
theorem ps_raise {x : Str} {np cpos pos : Pos} {e₀ : Expr} {es : List Expr} {t : TA} {C : Addr} (cl : ExC K C) (hg : Gl (cxOf (CXx P w) P w K mg base N qual scope f cd A outer s₀ H₀ E) x) (hm : mg x = some (.ref C))
    (ha : PA (cxOf (CXx P w) P w K mg base N qual scope f cd A outer s₀ H₀ E) (e₀ :: es) t) (hdb : (x == ("__debug__" : Str)) = false := by decide)
    (he : starEach (e₀ :: es) (cxOf (CXx P w) P w K mg base N qual scope f cd A outer s₀ H₀ E).env = (false, eval e₀ (cxOf (CXx P w) P w K mg base N qual scope f cd A outer s₀ H₀ E).env) :: starEach es (cxOf (CXx P w) P w K mg base N qual scope f cd A outer s₀ H₀ E).env := by rfl)
    (hpl : (backTo cpos (starEach es (cxOf (CXx P w) P w K mg base N qual scope f cd A outer s₀ H₀ E).env)).any (·.1) = false := by rfl) :
    PS (cxOf (CXx P w) P w K mg base N qual scope f cd A outer s₀ H₀ E) (.Raise (some (.Call (.Name x np) (e₀ :: es) [] cpos)) none pos) (tRaise C E t) := by
  intro pins s σ H D I h
  obtain ⟨nm, q, N', bs, bm, hdct, sn, sub, ab, col, dd, k0, k1, k2, k3, k5, lk, nk, ik, tk⟩ := cl.obj
  have XB : K.In base := I.mod.kin
  have hN : base.Ns N' (base.nsMap N') := .of_isNs (PySem.W.isNs_of_in XB nk)
  have T : OwnTail base [.type "ValueError", .type "Exception", .type "BaseException", .type "object"] bm := PySem.W.tail_of_in XB tk
  refine wpAny_Raise_call_subT (nm := nm) (q := q) (N := N') (bs := bs) (bm := bm) (hdct := hdct) (sn := sn) (sub := sub) (ab := ab) (col := col) (dd := dd) (k0 := k0) (k1 := k1) (k2 := k2) (k3 := k3) (k5 := k5) PySem.F.excBase_ValueError (mN := base.nsMap N') (T.hasType PySem.F.excBase_ValueError.hasBase) (I.ok.hd rfl)
    (by rw [he]; show (false || (backTo cpos (starEach es _)).any (·.1)) = false; rw [hpl]; rfl) (PySem.W.nsMap_none_of_in XB nk ik) (ld_glob I hg hm ⟨rfl, ?_⟩ hdb)
  have ha' := ha cpos pins s σ H _ I h
  rw [he] at ha' ⊢
  refine Calls.evalArgs_plain (thn ha' fun us s2 ⟨vs, H1, I1, r, hz, hE⟩ => ⟨rfl, by rw [← r.length]; exact hz, I1.bk _ _ (XB _ _ lk), hN.keeps I1.bk, T.keeps I1.bk, fun h' e hx => ?_⟩)
  have hin : ∀ env ∈ (cxOf (CXx P w) P w K mg base N qual scope f cd A outer s₀ H₀ E).stack, ∀ b, env.frame = some b → b ∈ frs (cxOf (CXx P w) P w K mg base N qual scope f cd A outer s₀ H₀ E).stack := fun env hen b hb => List.mem_filterMap.mpr ⟨env, hen, hb⟩
  refine wpAny_leaves_madeW (base := PySem.W.hideAll s2.heap (frs (cxOf (CXx P w) P w K mg base N qual scope f cd A outer s₀ H₀ E).stack)) (h := s2.heap) (L := (cxOf (CXx P w) P w K mg base N qual scope f cd A outer s₀ H₀ E).env.locals) I1.ok.frames rfl
    (fun b o z => PySem.W.of_hideAll _ z) (PySem.W.funFrames_hide I1.stack hin) hx fun h2 t fl _ _ up => ?_
  have un : Un (frs (cxOf (CXx P w) P w K mg base N qual scope f cd A outer s₀ H₀ E).stack) [] H1 H1 s2.heap h' := Un.kept hx.keeps
  have hok : HOk P w H1 h' := I1.hok.kept hx.keeps
  have kc : Holds (frs (cxOf (CXx P w) P w K mg base N qual scope f cd A outer s₀ H₀ E).stack) H1 s2.heap h' (PySem.W.hideAll s2.heap (frs (cxOf (CXx P w) P w K mg base N qual scope f cd A outer s₀ H₀ E).stack)) := fun b o q nb hb => by
    obtain ⟨o1, q1⟩ : ∃ o1, s2.heap.get? b = some o1 := by
      rcases hb with z | z
      · exact z
      · obtain ⟨v, hv⟩ := Option.isSome_iff_exists.mp z
        exact (I1.hok b v hv).some
    have e2 := hx.keeps b o1 q1
    rw [q] at e2; cases e2
    exact PySem.W.hideAll_get _ q1 nb
  have J := I1.landed (s' := { s2 with heap := h' }) rfl I1.bare un hok kc fl.1 up
  have fre : H1 e = none := by
    cases z : H1 e with
    | none => rfl
    | some v =>
      obtain ⟨o, ho⟩ := (I1.hok e v z).some
      rw [hx.new] at ho; cases ho
  exact ⟨e, .ref C, H1, rfl, ⟨J.os, J.bare, J.base, J.hok, fre, _, _, fl, holds_out rfl rfl rfl I1 (holds_up (X := cxOf (CXx P w) P w K mg base N qual scope f cd A outer s₀ H₀ E) un hok fl.1 kc) J.free⟩, hE⟩
end
end L2

set_option maxRecDepth 100000
namespace L2
open PySem PySem.Spec PyProof.Rows
section
variable {X : Cx} {pins : List (Addr × Obj)} {σ : St} {H H' : Hp} {s s' : Shared} {a : Addr} {cls : Value}
/-! ### try -/
/-- within a try's body -/
noncomputable abbrev Cx.tryd (X : Cx) (pn : List (Addr × Obj)) (E : Value → Shared → Prop) : Cx := { X with pn := X.pn ++ pn, xe := E }
/-- within an except's suite, the exception e; nothing is raised there -/
noncomputable abbrev Cx.held (X : Cx) (e : Value) : Cx := { X with A := X.A.mark (some e), calm := false, xe := fun _ _ => False }
theorem Cx.Ok.tryd (ok : X.Ok) (pn : List (Addr × Obj)) (E : Value → Shared → Prop) : (X.tryd pn E).Ok :=
  ⟨ok.mod, ok.kind, ok.glob, ok.blt, ok.above, ok.inj, ok.has, ok.cab, ok.hd, ok.frames, ok.stk, ok.exf, ok.bs, ok.bsz, ok.noex, ok.exfs, ok.funs, ok.frf⟩
theorem Cx.Ok.untryd {pn : List (Addr × Obj)} {E : Value → Shared → Prop} (ok : (X.tryd pn E).Ok) : X.Ok :=
  ⟨ok.mod, ok.kind, ok.glob, ok.blt, ok.above, ok.inj, ok.has, ok.cab, ok.hd, ok.frames, ok.stk, ok.exf, ok.bs, ok.bsz, ok.noex, ok.exfs, ok.funs, ok.frf⟩
theorem Cx.Ok.held (ok : X.Ok) (e : Value) : (X.held e).Ok :=
  ⟨ok.mod, ok.kind, ok.glob, ok.blt, ok.above, ok.inj, ok.has, ok.cab, fun z => Bool.noConfusion (show false = true from z), ok.frames, ok.stk, ok.exf, ok.bs, ok.bsz, ok.noex, ok.exfs, ok.funs, ok.frf⟩
theorem Inv.tryd (I : Inv X pins σ H s) (E : Value → Shared → Prop) : Inv (X.tryd pins E) [] σ H s :=
  ⟨I.ok.tryd pins E, I.os, I.bare, I.base, I.loc, I.cell, I.free, I.freeC, fun p hp => I.pin p (by simpa using hp), I.hok, I.len⟩
theorem Inv.untryd {pn : List (Addr × Obj)} {E : Value → Shared → Prop} (I : Inv (X.tryd pn E) pins σ H s) : Inv X pn σ H s :=
  ⟨I.ok.untryd, I.os, I.bare, I.base, I.loc, I.cell, I.free, I.freeC, fun p hp => I.pin p (List.mem_append_left _ hp), I.hok, I.len⟩
theorem Inv.held (I : Inv X pins σ H s) (e : Value) : Inv (X.held e) pins σ H s := ⟨I.ok.held e, I.os, I.bare, I.base, I.loc, I.cell, I.free, I.freeC, I.pin, I.hok, I.len⟩
theorem Inv.unheld {e : Value} (ok : X.Ok) (I : Inv (X.held e) pins σ H s) : Inv X pins σ H s := ⟨ok, I.os, I.bare, I.base, I.loc, I.cell, I.free, I.freeC, I.pin, I.hok, I.len⟩
/-- an object that stands is tracked from here on -/
theorem Inv.track {o : HO} (I : Inv X pins σ H s) (hn : H a = none) (h0 : X.s₀.heap.get? a = none) (hL : a ≠ X.env.locals) (hC : ∀ x c, X.env.cells.lookup x = some c → c ≠ a) (hp : ∀ p ∈ X.pn ++ pins, p.1 ≠ a)
    (new : ObjOk X.prog X.w (upd H a o) s.heap a o) : Inv X pins σ (upd H a o) s := by
  refine ⟨I.ok, I.os, I.bare, ⟨fun b u q n hb hx => I.base.keep b u q n hb hx, fun b u q n hb hx => I.base.slot b u q n hb hx, fun b u q n hx => ?_, I.base.there, fun b xs q => ?_, fun b u v q => ?_, fun b ps q => ?_⟩, I.loc, I.cell, ?_, fun x c e => ?_, fun p q => ?_, fun b u q => ?_, I.len⟩
  · rw [upd_ne (fun z => by rw [z, h0] at q; cases q)]; exact I.base.free b u q n hx
  · have e := I.base.tups b xs q
    rw [upd_ne (ne_of_none e hn)]; exact e
  · have e := I.base.frzs b u v q
    rw [upd_ne (ne_of_none e hn)]; exact e
  · obtain ⟨m, e⟩ := I.base.tbls b ps q
    exact ⟨m, by rw [upd_ne (ne_of_none e hn)]; exact e⟩
  · rw [upd_ne (Ne.symm hL)]; exact I.free
  · rw [upd_ne (hC x c e)]; exact I.freeC x c e
  · obtain ⟨e, n, r⟩ := I.pin p q
    exact ⟨e, by rw [upd_ne (hp p q)]; exact n, r⟩
  · by_cases hb : b = a
    · subst hb; rw [upd_same] at q; cases q; exact new
    · rw [upd_ne hb] at q
      exact (I.hok b u q).stay (fun c v _ r => r) (fun c r => by rw [upd_ne (ne_of_none r hn)]; exact r) fun c xs r => by rw [upd_ne (ne_of_none r hn)]; exact r
/-- a name goes -/
theorem Inv.gone {i : Nat} {n : Str} {h' : Heap} {v : Option Value} {m : Str → Option Value} {t' : Nat} (I : Inv X pins σ H s) (hN : X.N.Nodup) (hi : X.N[i]? = some n) (hl : X.env.scope.names.lookup n = some .local) (hn : s.heap.Ns X.env.locals m)
    (hm : ∀ (j : Nat) (x : Str) (v : V), X.N[j]? = some x → σ[j]? = some (some v) → Vis X.env.scope x → ∃ u, RelV v u ∧ Look X.env s.heap m x u)
    (hn' : h'.Ns X.env.locals (fun x => if x = n then v else m x)) (hs : Heap.SameBut X.env.locals s.heap h') : Inv X pins (σ.set i none) H { s with heap := h', toks := t' } := by
  obtain ⟨oL, _, _, hoL, _⟩ := id hn
  have cne := I.cne
  have lt : ∀ b o, X.s₀.heap.get? b = some o → b ≠ X.env.locals := fun b o e => Nat.ne_of_lt (Nat.lt_of_lt_of_le (Heap.lt_size e) I.ok.above)
  refine ⟨I.ok, I.os, I.bare, ⟨fun b o e n hb hx => (hs.2 b (lt b o e)).trans (I.base.keep b o e n hb hx), fun b o e n hb hx => ?_, I.base.free, fun b o e hx => ?_, I.base.tups, I.base.frzs, I.base.tbls⟩, ⟨_, hn', fun j y v' e1 e2 e3 => ?_⟩, fun y c e => ?_, I.free, I.freeC, fun p hp => ?_, fun b ob e => ?_, by simpa using I.len⟩
  · obtain ⟨sl, e1⟩ := I.base.slot b o e n hb hx
    exact ⟨sl, (hs.2 b (lt b o e)).trans e1⟩
  · obtain ⟨o', e1⟩ := I.base.there b o e hx
    exact ⟨o', (hs.2 b (lt b o e)).trans e1⟩
  · by_cases hj : j = i
    · subst hj
      have hiσ : j < σ.length := by rw [I.len]; exact (List.getElem?_eq_some_iff.mp hi).1
      rw [List.getElem?_set_self hiσ] at e2
      cases e2
    · rw [List.getElem?_set_ne (Ne.symm hj)] at e2
      obtain ⟨u', r', q⟩ := hm j y v' e1 e2 e3
      refine ⟨u', r', ?_⟩
      rcases q with ⟨k, e⟩ | ⟨k, c, e, z⟩
      · refine .inl ⟨k, ?_⟩
        have : y ≠ n := fun e => hj (nodup_ix hN e1 (e ▸ hi))
        simp [this, e]
      · exact .inr ⟨k, c, e, z.sameBut hs (cne y c e)⟩
  · obtain ⟨w', z⟩ := I.cell y c e
    exact ⟨w', z.sameBut hs (cne y c e)⟩
  · obtain ⟨e, n, ne, nf, d⟩ := I.pin p hp
    exact ⟨(hs.2 p.1 ne).trans e, n, ne, nf, d⟩
  · refine (I.hok b ob e).stay (fun c w' hc q => (hs.2 c ?_).trans q) (fun _ q => q) fun _ _ q => q
    have fr := I.free
    rintro rfl
    rcases hc with rfl | hc
    · rw [fr] at e; cases e
    · rw [fr] at hc; cases hc
/-- the object of an exception -/
noncomputable def excO (cls : Value) (p : Addr) : HO := .ext fun h => ∃ o, h.get? p = some o ∧ o.cls = cls
noncomputable def PassX (CX : CXT) (X : Cx) (E : St → XK) : Prop := ∀ (pins : List (Addr × Obj)) (σ : St) (H : Hp) (s : Shared) (e : Value) (s' : Shared), Inv X pins σ H s → CX X.stack H s (E σ) e s' → X.xe e s'
noncomputable def tTry (K : PySem.W.Frag) (C : Addr) (i : Nat) (tb : (St → XK) → TS) (th : TS) : TS := fun D σ H =>
  tb (fun σ1 cls _ H1 => PySem.W.exmOne K cls (.ref C) = some true ∧ ∀ p, H1 p = none → th { nx := fun σ2 H2 => D.nx (σ2.set i none) H2, rt := D.rt, bk := fun σ2 H2 => D.bk (σ2.set i none) H2, ct := fun σ2 H2 => D.ct (σ2.set i none) H2 } (σ1.set i (some (.ref p))) (upd H1 p (excO cls p))) D σ H
end
section
variable {X : Cx} {x n : Str} {i : Nat} {C : Addr} {np hpos pos : Pos} {body suite : List Stmt} {b₀ : Stmt} {tb : (St → XK) → TS} {th : TS}
theorem ps_try_as (hex : X.ex = []) (hst : X.stack = X.env :: X.outer) (hfr : X.env.frame = some X.env.locals) (hN : X.N.Nodup) (hi : X.N[i]? = some n) (hl : X.env.scope.names.lookup n = some .local) (hg : Gl X x) (hm : X.mg x = some (.ref C))
    (hb : ∀ pn xe (E : St → XK), PassX (CXx X.prog X.w) (X.tryd pn xe) E → PSs (X.tryd pn xe) body (tb E)) (hs : ∀ e, PSs (X.held e) (b₀ :: suite) th) (hdb : (x == ("__debug__" : Str)) = false := by decide) :
    PS X (.Try body [.ExceptHandler (some (.Name x np)) (some n) (b₀ :: suite) hpos] [] [] pos) (tTry X.K C i tb th) := by
  intro pins s σ H D I h
  rw [arm_exec_Try]
  refine wpAny_bind (wpAny_standAt (wpAny_tryStmt_except ?_))
  refine wpAny_mono (hb pins (fun e s₁ => wpAny (model X.prog X.w) X.A (noteFrame e X.env) (fun _ s₂ => wpAny (model X.prog X.w) X.A (setFlight e none) (fun _ s₃ => wpAny (model X.prog X.w) X.A (handleBy e X.env [.ExceptHandler (some (.Name x np)) (some n) (b₀ :: suite) hpos]) (SP X pins D) X.xe s₃) X.xe s₂) X.xe s₁)
    _ ?_ [] s σ H D (I.tryd _) h) (fun f s1 q => ?_) fun _ _ z => z
  · intro pins2 σ1 H1 s1 e s' I1 hx
    obtain ⟨a, cls, H', rfl, F, hm1, hth⟩ := hx
    obtain ⟨B, a0, fl, kc⟩ := F.fly
    have hcls : (X.env.scope.kind == .class || (X.env.scope.kind == .module && X.env.locals != X.env.globals)) = false := by rw [I.ok.kind]; rfl
    have hframes : X.A.frames = some (X.env :: X.outer) := by rw [← hst]; exact I.ok.frames
    have fl' : Heap.FlyingW B (X.env :: X.outer) a cls a0 s'.heap := by rw [← hst]; exact fl
    refine wpAny_looks_onW hframes hfr fl' fun h4 held4 up4 => ?_
    refine wpAny_landsW held4 fun h5 fl5 up5 => ?_
    have J5 := (Fly.land (X := X.tryd pins _) F I1 kc fl5.1 (up4.trans up5)).untryd
    obtain ⟨oe, heo, hec⟩ := fl5.there
    refine wpAny_handleBy_cons (codeAny_handlers_test (ld_glob (J5.held (.ref a)) hg hm ?_ hdb)) (by intro q; cases q)
    have LT : PySem.W.Looks (model X.prog X.w) h5 (typeOf (.ref a)) cls := by
      subst hec
      exact (PySem.W.Looks.ld heo).andThen .now
    refine (PySem.W.exm_one J5.kIn LT hm1).here ?_
    refine codeAny_handlers_suite_as ?_
    refine lands_againW fl5 fun h6 fl6 up6 => ?_
    have J6 := (Fly.land (X := X.tryd pins _) F I1 kc fl6.1 ((up4.trans up5).trans up6)).untryd
    obtain ⟨oe6, heo6, hec6⟩ := fl6.there
    obtain ⟨oe7, vs7, heo7, hec7, hd7, _⟩ := fl6.first
    have news : s1.heap.get? a = none := by
      cases z : s1.heap.get? a with
      | none => rfl
      | some o =>
        exfalso
        obtain ⟨o', e'⟩ := F.un.there a o z (by simp)
        by_cases hma : a ∈ frs X.stack
        · obtain ⟨of, q1, q2, q3⟩ := I1.frm a hma
          obtain ⟨sl, e1⟩ := F.un.slot a of q1 q2 hma (by simp)
          obtain ⟨sl2, e2⟩ := ((up4.trans up5).trans up6) a _ e1 q3
          rw [heo7] at e2; cases e2
          exact q3 _ hd7
        · have := kc a o' e' hma (.inl ⟨o, z⟩)
          rw [fl.2.1] at this; cases this
    have there1 := I1.base.there
    have T6 : Inv X pins σ1 (upd H' a (excO cls a)) { s' with heap := h6 } := by
      refine J6.track F.free ?_ ?_ ?_ ?_ ?_
      · cases z : X.s₀.heap.get? a with
        | none => rfl
        | some o =>
          obtain ⟨o', e'⟩ := there1 a o z (by show a ∉ X.ex; rw [hex]; simp)
          rw [news] at e'; cases e'
      · rintro rfl
        have := I1.lt
        obtain ⟨m, ⟨oL, _, _, hoL, _⟩, _⟩ := I1.loc
        rw [news] at hoL; cases hoL
      · rintro y c ec rfl
        obtain ⟨v, o, ho, _⟩ := I1.cell y _ ec
        rw [news] at ho; cases ho
      · rintro p hp rfl
        have := (I1.pin p (List.mem_append_left _ hp)).1
        rw [news] at this; cases this
      · exact ⟨⟨oe6, heo6, hec6⟩, ⟨oe6, heo6⟩, fun h1 h2 ⟨o, q, c⟩ k => ⟨o, k o q, c⟩⟩
    refine store_ok (X := X.held (.ref a)) (v := .ref a) (T6.held (.ref a)) hN hi (.inl hl) rfl (fun s7 J7 => ?_) (.inr hl)
    refine wpAny_mono (hs (.ref a) pins s7 _ _ _ J7 (hth a F.free)) (fun f s8 q => ?_) fun _ _ z => False.elim z
    have fin : ∀ {σ2 : St} {H2 : Hp} {Q : Unit → Shared → Prop}, Inv (X.held (.ref a)) pins σ2 H2 s8 → (∀ s9, Inv X pins (σ2.set i none) H2 s9 → Q () s9) → wpAny (model X.prog X.w) X.A (do bindName X.env n .none; unbindBehindTheSuite X.env n hpos) Q X.xe s8 := by
      intro σ2 H2 Q J8 k
      obtain ⟨m, hn, hlk⟩ := J8.loc
      refine wpAny_nameGoes_keeps hl hn hcls fun h9 v hn9 hs9 => ?_
      exact k _ ((J8.unheld I.ok).gone hN hi hl hn hlk hn9 hs9)
    cases f with
    | next => obtain ⟨σ2, H2, J8, q⟩ := q; exact fin J8 fun s9 J9 => ⟨_, H2, J9, q⟩
    | brk => obtain ⟨σ2, H2, J8, q⟩ := q; exact fin J8 fun s9 J9 => ⟨_, H2, J9, q⟩
    | cont => obtain ⟨σ2, H2, J8, q⟩ := q; exact fin J8 fun s9 J9 => ⟨_, H2, J9, q⟩
    | ret u => obtain ⟨v, σ2, H2, J8, r, q⟩ := q; exact fin J8 fun s9 J9 => ⟨v, _, H2, J9, r, q⟩
  · cases f with
    | next => obtain ⟨σ', H', J, q⟩ := q; exact wpAny_execs_nil ⟨σ', H', J.untryd, q⟩
    | brk => obtain ⟨σ', H', J, q⟩ := q; exact ⟨σ', H', J.untryd, q⟩
    | cont => obtain ⟨σ', H', J, q⟩ := q; exact ⟨σ', H', J.untryd, q⟩
    | ret u => obtain ⟨v, σ', H', J, r, q⟩ := q; exact ⟨v, σ', H', J.untryd, r, q⟩
end
end L2

set_option maxRecDepth 100000
namespace L2
open PySem PySem.Spec PyProof.Rows PySem.W
section
variable {prog : Program} {w : World} {A : Around} {E : Value → Shared → Prop} {h : Heap} {g : Array GenState} {d : Drawn} {t : Nat} {os : OsState} {K : PySem.W.Frag} {a C : Addr} {o : Obj}
/-- what the class of an exception tells of itself -/
structure ExK (K : PySem.W.Frag) (C : Addr) : Prop where
  ga : PySem.W.findIn K (.ref C) "__getattribute__" = some (some (.builtin "BaseException.__getattribute__"))
  gh : PySem.W.findIn K (.ref C) "__getattr__" = some none
  cl : PySem.W.findIn K (.ref C) "__class__" = some (some (.builtin "object.__class__"))
  be : PySem.W.mroIn K C (.type "BaseException") = some true
  ob : PySem.W.mroIn K C (.type "object") = some true
  cs : (PySem.W.clsIn K C).isSome = true
theorem exc_get {R : Result → Shared → Prop} (X : K.In h) (k : ExK K C) (hx : h.get? a = some o) (hc : o.cls = .ref C) (hq : R (.ok (.ret (.ref C))) ⟨h, g, d, t, os⟩) :
    codeAny (model prog w) A (.call (.builtin "getset_descriptor.__get__") ⟨[.builtin "object.__class__", .ref a, .ref C], []⟩) R ⟨h, g, d, t, os⟩ := by
  have hT5 : (⟨h, g, d, t, os⟩ : Shared).TypeIs (.builtin "object.__class__") "getset_descriptor" := PySem.F.typeOf_object_class
  have LO : Looks (model prog w) h (isSubtype (.ref C) (.type (".".intercalate ("object.__class__".cutAt '.').dropLast))) true := by
    rw [PySem.F.owner_object_class]; exact looks_mroIn X k.ob
  refine codeAny_call_builtin PySem.F.slot_gs_get.plain PySem.F.entry_gs_get (PySem.F.slot_gs_get.check _ _ _ _ _ _ _ _ hT5 (PySem.F.args_gs_get _ _ _) ?_)
  repeat (any_goals (first | assumption | (with_reducible refine wpAny_loadPart_at hx ?_; rw [hc]) | with_reducible refine LO.at ?_ | wp_step))
  refine ⟨Code.quiet_builtin _ (by decide +kernel), codeAny_builtin PySem.F.entry_object_class ?_⟩
  repeat (any_goals (first | assumption | (with_reducible refine wpAny_loadPart_at hx ?_; rw [hc]) | wp_step))
theorem exc_entry {tk : Tok} {Q : Fin → Shared → Prop} (X : K.In h) (k : ExK K C) (hx : h.get? a = some o) (hc : o.cls = .ref C) (hq : Q (.done (.ret (.ref C))) ⟨h, g, d, t, os⟩) :
    wpAny (model prog w) A (Builtin.«object.__getattribute__» ⟨[.ref a, .str "__class__" tk], []⟩) Q E ⟨h, g, d, t, os⟩ := by
  have hT5 : (⟨h, g, d, t, os⟩ : Shared).TypeIs (.builtin "object.__class__") "getset_descriptor" := PySem.F.typeOf_object_class
  have f5 := PySem.F.typeOf_object_class
  have f6 := PySem.F.slot_gs_get.lookup
  have f7 := PySem.F.slot_gs_set.lookup
  have LC := looks_findIn (M := model prog w) X k.cl
  repeat (any_goals (first | assumption | (with_reducible refine wpAny_loadPart_at hx ?_; rw [hc]) | with_reducible refine LC.at ?_ | wp_step))
  refine exc_get X k hx hc ?_
  repeat (any_goals (first | assumption | wp_step))
theorem exc_check {M : Model} {v : Value} {Q : Unit → Shared → Prop} (X : K.In h) (k : ExK K C) (hx : h.get? a = some o) (hc : o.cls = .ref C) (q : Q () ⟨h, g, d, t, os⟩) : wpAny M A (checkBuiltinCall "BaseException.__getattribute__" ⟨[.ref a, v], []⟩) Q E ⟨h, g, d, t, os⟩ := by
  have bk : builtinKind "BaseException.__getattribute__" = some .slot := by decide +kernel
  have bs : splitId "BaseException.__getattribute__" = some ("BaseException", "__getattribute__") := by decide +kernel
  have LB := looks_mroIn (M := M) X k.be
  have ar := PySem.F.args_bexc_ga (.ref a) v
  simp only [checkBuiltinCall, bk, bs]
  refine wpAny_bind ?_
  unfold isInstance
  repeat (first | (with_reducible refine wpAny_loadPart_at hx ?_; rw [hc]) | with_reducible refine LB.at ?_ | wp_step)
  exact q
theorem exc_call {tk : Tok} {R : Result → Shared → Prop} (X : K.In h) (k : ExK K C) (hx : h.get? a = some o) (hc : o.cls = .ref C) (hq : R (.ok (.ret (.ref C))) ⟨h, g, d, t, os⟩) :
    codeAny (model prog w) A (.call (.builtin "BaseException.__getattribute__") ⟨[.ref a, .str "__class__" tk], []⟩) R ⟨h, g, d, t, os⟩ :=
  codeAny_call_builtin (by decide +kernel) PySem.F.entry_bexc_ga (exc_check X k hx hc (exc_entry X k hx hc hq))
theorem exc_by {tk : Tok} {Q : Value → Shared → Prop} (X : K.In h) (k : ExK K C) (hx : h.get? a = some o) (hc : o.cls = .ref C) (hq : Q (.ref C) ⟨h, g, d, t, os⟩) :
    wpAny (model prog w) A (getAttrBy (.ref a) (.str "__class__" tk) false) Q E ⟨h, g, d, t, os⟩ := by
  have hx2 : (Value.builtin "BaseException.__getattribute__" == Value.builtin "object.__getattribute__") = false := by decide +kernel
  have hx1 : (onTheHeap (Value.ref C) && Value.builtin "BaseException.__getattribute__" == Value.builtin "object.__getattribute__") = false := by rw [hx2]; rfl
  have LG := looks_findIn (M := model prog w) X k.ga
  have LH := looks_findIn (M := model prog w) X k.gh
  have hp : plainId "BaseException.__getattribute__" = true := by decide +kernel
  have f3 : bindSpecial (.builtin "BaseException.__getattribute__") (.ref a) = pure (.builtin "BaseException.__getattribute__", [.ref a]) := by
    have hop : withoutEnding? "BaseException.__getattribute__" "#opaque" = none := by decide +kernel
    have hdat : withoutEnding? "BaseException.__getattribute__" "#data" = none := by decide +kernel
    have hk : builtinKind "BaseException.__getattribute__" = some .slot := by decide +kernel
    simp only [bindSpecial, typeOf, builtinType, hop, hdat, hk]; rfl
  repeat (any_goals (first | assumption | (with_reducible refine wpAny_loadPart_at hx ?_; rw [hc]) | with_reducible refine LG.at ?_ | with_reducible refine LH.at ?_ | wp_step))
  refine exc_call X k hx hc ?_
  repeat (any_goals (first | assumption | wp_step))
theorem exc_class {Q : Option Value → Shared → Prop} (X : K.In h) (k : ExK K C) (hx : h.get? a = some o) (hc : o.cls = .ref C) (hq : Q (some (.ref C)) ⟨h, g, d, t + 1, os⟩) : wpAny (model prog w) A (getAttr? (.ref a) "__class__") Q E ⟨h, g, d, t, os⟩ := by
  unfold getAttr? getAttrBy?
  repeat (any_goals (first | assumption | with_reducible apply exc_by X k hx hc | wp_step))
/-- isinstance of an exception -/
theorem kitx_exc (k : ExK K C) : KitX K (.ref a) (.ref C) (fun h => ∃ o, h.get? a = some o ∧ o.cls = .ref C) where
  ty := fun M h _ p => by
    obtain ⟨o, h1, h2⟩ := p
    rw [← h2]
    exact (Looks.ld h1).andThen .now
  it := fun _ _ X _ => by
    obtain ⟨cdD, hcD⟩ := Option.isSome_iff_exists.mp k.cs
    unfold clsIn at hcD
    split at hcD
    · rename_i ho
      intro A' Q' E' s' k q
      unfold isType loadHead
      exact wpAny_bind (wpAny_loadPart (k _ _ (X _ _ ho)) (wpAny_pure q))
    · cases hcD
  ne := fun h tp dd its n sl X htp => by
    obtain ⟨cdD, hcD⟩ := Option.isSome_iff_exists.mp k.cs
    refine Bool.eq_false_iff.mpr fun q => ?_
    have e : C = tp := Value.ref.inj (beq_iff_eq.mp q)
    subst e
    unfold clsIn at hcD
    split at hcD
    · rename_i ho
      have z := (X _ _ ho).symm.trans htp
      cases z
    · cases hcD
  ca := fun {_ _ _ _ _ s} X p q => by
    obtain ⟨h, g, d, t, os⟩ := s
    obtain ⟨o, h1, h2⟩ := p
    exact exc_class X k h1 h2 q
end
end L2

set_option maxRecDepth 100000
namespace L2
open PySem PySem.Spec PyProof.Rows
section
variable {X : Cx} {pins : List (Addr × Obj)} {σ : St} {H H' : Hp} {s s' : Shared}
/-- a class as a value -/
inductive ClV : V → Value → Prop where
  | ty (T : String) : ClV (.ty T) (.type T)
  | own (D : Addr) : ClV (.ref D) (.ref D)
theorem ClV.rel {v : V} {c u : Value} (h : ClV v c) (r : RelV v u) : u = c := by
  cases h with
  | ty T => exact r
  | own D => exact r
theorem call_isiE : CallR X (.builtin "isinstance") (fun xs H Q => ∃ p C cv c b, xs = [.ref p, cv] ∧ H p = some (excO (.ref C) p) ∧ ExK X.K C ∧ ClV cv c ∧ PySem.W.kitOne X.K (.ref C) c = some b ∧ Q (.bl b) H) := by
  intro pins s σ H xs us Q I r h
  obtain ⟨p, C, cv, c, b, rfl, hp, k, cl, e, q⟩ := h
  obtain ⟨u, v, rfl, r1, r2⟩ := Vals.two r
  cases (show u = Value.ref p from r1)
  cases cl.rel r2
  obtain ⟨⟨o, h1, h2⟩, _⟩ := (show ObjOk X.prog X.w H s.heap p (excO (.ref C) p) from I.hok p _ hp)
  exact PySem.W.kia_one (kitx_exc k) I.kIn ⟨o, h1, h2⟩ e (fun z => nomatch z) fun tk => ⟨.bl b, H, I.tok tk, rfl, q⟩
theorem qc_isiE : QCall X (.builtin "isinstance") (fun xs H Q => ∃ p C cv c b, xs = [.ref p, cv] ∧ H p = some (excO (.ref C) p) ∧ ExK X.K C ∧ ClV cv c ∧ PySem.W.kitOne X.K (.ref C) c = some b ∧ Q (.bl b) H) := ⟨call_isiE⟩
theorem bt_ValueError : bootBuiltins "ValueError" = some (.type "ValueError") := by decide +kernel
/-! ### f"{x!r} .." of a short text: some text -/
end
/-! ### defs that raise; calls in a try's body -/
theorem Fun.okX {P : Program} {w : World} {K : PySem.W.Frag} {mg : Str → Option Value} {base : Heap} {x qual : Str} {st : Stmt} {f : Addr} {fd : FuncData} {N ps : List Str} {k : Nat} {sp : Sp} (F : Fun K x qual st f fd) (S : FnScope N ps (defScope st)) (len : ∀ vs H Q E, sp vs H Q E → vs.length = ps.length)
    (hbody : ∀ (cdv : Value) (A : Around) (outer : List Env) (s : Shared) (H : Hp) (vs : List V) (Q : VK) (E : XK), Room k (A.deeper (envOfC qual (defScope st) s.heap.objs.size f cdv)) → sp vs H Q E →
      ∃ t, QSs (cxOf (CXx P w) P w K mg base N qual (defScope st) f cdv A outer s H E) (defBody st) t ∧ t { nx := fun _ H' => Q .non H', rt := Q } (start N vs) H) : FnOk P w K mg base (CXx P w) (k + 1) f fd ps sp := by
  obtain ⟨oc, od, kV, doc, pm, an, cdv, ct, osl, rfl, lk, hcd⟩ := F.ex
  refine fn_of lk hcd S len fun A outer s H vs Q E hr hsp => ?_
  obtain ⟨t, h, q⟩ := hbody cdv A outer s H vs Q E hr hsp
  exact ⟨t, h.h, q⟩
section
variable {P : Program} {w : World} {K : PySem.W.Frag} {mg : Str → Option Value} {base : Heap} {N : List Str} {qual : Str} {scope : Scope} {f : Addr} {cd : Value} {A : Around} {outer : List Env} {s₀ : Shared} {H₀ : Hp} {E : XK}
theorem qs_raise {x : Str} {np cpos pos : Pos} {e₀ : Expr} {es : List Expr} {t : TA} {C : Addr} (cl : ExC K C) (hg : Gl (cxOf (CXx P w) P w K mg base N qual scope f cd A outer s₀ H₀ E) x) (hm : mg x = some (.ref C))
    (ha : QA (cxOf (CXx P w) P w K mg base N qual scope f cd A outer s₀ H₀ E) (e₀ :: es) t) (hdb : (x == ("__debug__" : Str)) = false)
    (he : starEach (e₀ :: es) (cxOf (CXx P w) P w K mg base N qual scope f cd A outer s₀ H₀ E).env = (false, eval e₀ (cxOf (CXx P w) P w K mg base N qual scope f cd A outer s₀ H₀ E).env) :: starEach es (cxOf (CXx P w) P w K mg base N qual scope f cd A outer s₀ H₀ E).env := by rfl)
    (hpl : (backTo cpos (starEach es (cxOf (CXx P w) P w K mg base N qual scope f cd A outer s₀ H₀ E).env)).any (·.1) = false := by rfl) :
    QS (cxOf (CXx P w) P w K mg base N qual scope f cd A outer s₀ H₀ E) (.Raise (some (.Call (.Name x np) (e₀ :: es) [] cpos)) none pos) (tRaise C E t) := ⟨ps_raise cl hg hm ha.h hdb he hpl⟩
end
section
variable {X : Cx} {CX : CXT} {k : Nat} {f : Addr} {fd : FuncData} {ps : List Str} {sp : Sp} {dvs : List V} {ds : List Value} {E : St → XK} {x : Str} {p pos : Pos} {e : Expr} {es : List Expr} {t : TA}
noncomputable def tCallX (sp : Sp) (dvs : List V) (E : St → XK) (t : TA) : TE := fun σ H Q => t σ H fun vs H1 => sp (vs ++ dvs) H1 Q (E σ)
theorem run_fnX {pins : List (Addr × Obj)} {σ : St} {H : Hp} {s : Shared} {Q : VK} {us : List Value} {vs : List V} (F : FnOk X.prog X.w X.K X.mg X.base CX k f fd ps sp) (hr : Room k X.A) (hb : Binds X.K fd ps ds) (hd : Vals dvs ds) (hx : PassX CX X E)
    (I : Inv X pins σ H s) (r : Vals vs us) (h : sp (vs ++ dvs) H Q (E σ)) : wpAny (model X.prog X.w) X.A (call (.ref f) us) (EP X pins σ Q) X.xe s := by
  have r2 : Vals (vs ++ dvs) (us ++ ds) := r.append hd
  have hl : (us ++ ds).length = ps.length := by rw [← r2.length]; exact F.len _ _ _ _ h
  refine wpAny_call (codeAny_mono (F.run X.A X.stack s H ⟨us, []⟩ (us ++ ds) (vs ++ dvs) Q (E σ) hr I.env0 (hb s us I.kIn hl) r2 h) fun r s' hq => ?_)
  cases r with
  | error e => exact hx pins σ H s e s' I hq
  | ok fl =>
    cases fl with
    | ret u => exact I.after hq
    | next => exact False.elim hq
    | brk => exact False.elim hq
    | cont => exact False.elim hq
theorem qe_callX (F : FnOk X.prog X.w X.K X.mg X.base CX k f fd ps sp) (hr : Room k X.A) (hg : Gl X x) (hm : X.mg x = some (.ref f)) (hk : PySem.W.keepIn X.K (.ref f) = true) (hb : Binds X.K fd ps ds) (hd : Vals dvs ds) (hx : PassX CX X E)
    (ha : QA X (e :: es) t) (hdb : (x == ("__debug__" : Str)) = false) (he : starEach (e :: es) X.env = (false, eval e X.env) :: starEach es X.env := by rfl) (hpl : (backTo pos (starEach es X.env)).any (·.1) = false := by rfl) :
    QE X (.Call (.Name x p) (e :: es) [] pos) (tCallX sp dvs E t) := ⟨by
  intro pins s σ H Q I h
  refine wpAny_Call_Name_kw (ld_glob I hg hm ?_ hdb)
  refine PySem.W.callWith_K (h₀ := X.base) I.ok.mod.kin hk (thn (ha.h pos pins s σ H _ I h) fun us s1 ⟨vs, H1, I1, r, q⟩ => ⟨I1.kIn, ?_⟩) he hpl
  exact run_fnX F hr hb hd hx I1 r q⟩
theorem qs_try_as {n : Str} {i : Nat} {C : Addr} {np hpos pos : Pos} {body suite : List Stmt} {b₀ : Stmt} {tb : (St → XK) → TS} {th : TS} (hex : X.ex = []) (hst : X.stack = X.env :: X.outer) (hfr : X.env.frame = some X.env.locals) (hN : X.N.Nodup) (hi : X.N[i]? = some n) (hl : X.env.scope.names.lookup n = some .local) (hg : Gl X x) (hm : X.mg x = some (.ref C))
    (hb : ∀ pn xe (E : St → XK), PassX (CXx X.prog X.w) (X.tryd pn xe) E → QSs (X.tryd pn xe) body (tb E)) (hs : ∀ e, QSs (X.held e) (b₀ :: suite) th) (hdb : (x == ("__debug__" : Str)) = false) :
    QS X (.Try body [.ExceptHandler (some (.Name x np)) (some n) (b₀ :: suite) hpos] [] [] pos) (tTry X.K C i tb th) := ⟨ps_try_as hex hst hfr hN hi hl hg hm (fun pn xe E h => (hb pn xe E h).h) (fun e => (hs e).h) hdb⟩
end
end L2
namespace RB
open PySem L2 PySem.Spec PyProof.Rows
end RB

set_option maxRecDepth 100000
namespace RB
open PySem L2 PySem.Spec PyProof.Rows
/-! ### the reader's mirror: what is read of a row of signs, and what is left -/
/-! ### the reader's state: the rest of its text -/
end RB

set_option maxRecDepth 100000
namespace RB
open PySem L2 PySem.Spec PyProof.Rows
end RB

set_option maxRecDepth 100000
namespace RB
open PySem L2 PySem.Spec PyProof.Rows
end RB

set_option maxRecDepth 100000
namespace RB
open PySem L2 PySem.Spec PyProof.Rows
/-! ### names in what is read -/
/-! ### read_recipe of anything -/
/-! ### texts that write none -/
/-! ### sums of a -/
end RB

set_option maxRecDepth 100000
namespace L2
open PySem PySem.Spec PyProof.Rows
/-- a text k times -/
noncomputable def repS (t : Str) (k : Nat) : Str := ⟨((List.replicate k t.cps.toList).flatten).toArray⟩
theorem foldA (t : Array Nat) : ∀ (k : Nat) (acc : Array Nat), ((List.replicate k t).foldl (· ++ ·) acc).toList = acc.toList ++ (List.replicate k t.toList).flatten
  | 0, acc => by simp
  | k + 1, acc => by
    rw [List.replicate_succ, List.foldl_cons, foldA t k, Array.toList_append, List.replicate_succ, List.flatten_cons, List.append_assoc]
theorem mul_rep {t : Str} {n : Int} (h : 1 ≤ n) : Txt.mul t n = repS t n.toNat := by
  unfold Txt.mul
  rw [if_neg (by omega)]
  split
  · rename_i hc
    unfold repS
    rcases Bool.or_eq_true_iff.mp hc with z | z
    · have : n = 1 := by simpa using z
      subst this
      cases t; simp
    · have z' : t.length = 0 := by simpa using z
      have e : t.cps.toList = [] := by
        have := z'
        unfold Str.length at this
        simpa using this
      rw [e]
      cases t with
      | mk c =>
        have e' : c = #[] := by simpa using e
        subst e'
        simp
  · unfold repS
    have e := foldA t.cps n.toNat #[]
    generalize (List.replicate n.toNat t.cps).foldl (· ++ ·) #[] = A at e
    have : A = ((List.replicate n.toNat t.cps.toList).flatten).toArray := by
      have e2 := congrArg List.toArray e
      simpa using e2
    rw [this]
end L2
namespace RB
open PySem L2 PySem.Spec PyProof.Rows
theorem rep_list (t : Str) (k : Nat) : (repS t k).cps.toList = (List.replicate k t.cps.toList).flatten := by unfold repS; simp
theorem rep_len (t : Str) (k : Nat) : (repS t k).length = k * t.length := by
  rw [← lenL, rep_list, len_rep, lenL]
/-! ### rows of sums, as texts -/
noncomputable def LC (m d : Nat) : Prop := (m ≤ 128 ∧ d = 1) ∨ (m ≤ 64 ∧ d = 2) ∨ (m ≤ 32 ∧ d = 3) ∨ (m ≤ 16 ∧ d = 4) ∨ (m ≤ 8 ∧ d = 5) ∨ (m ≤ 4 ∧ d = 6) ∨ (m ≤ 2 ∧ d = 7) ∨ (m ≤ 1 ∧ d = 8)
theorem LC.next {m d : Nat} (h : LC m d) (h2 : 2 ≤ m) : LC ((m + 1) / 2) (d + 1) := by
  have c : ∀ k : Nat, m ≤ 2 * k → (m + 1) / 2 ≤ k := fun k hk => by omega
  rcases h with ⟨a, b⟩ | ⟨a, b⟩ | ⟨a, b⟩ | ⟨a, b⟩ | ⟨a, b⟩ | ⟨a, b⟩ | ⟨a, b⟩ | ⟨a, b⟩
  · exact .inr (.inl ⟨c 64 a, by rw [b]⟩)
  · exact .inr (.inr (.inl ⟨c 32 a, by rw [b]⟩))
  · exact .inr (.inr (.inr (.inl ⟨c 16 a, by rw [b]⟩)))
  · exact .inr (.inr (.inr (.inr (.inl ⟨c 8 a, by rw [b]⟩))))
  · exact .inr (.inr (.inr (.inr (.inr (.inl ⟨c 4 a, by rw [b]⟩)))))
  · exact .inr (.inr (.inr (.inr (.inr (.inr (.inl ⟨c 2 a, by rw [b]⟩))))))
  · exact .inr (.inr (.inr (.inr (.inr (.inr (.inr ⟨c 1 a, by rw [b]⟩))))))
  · omega
theorem LC.le {m d : Nat} (h : LC m d) : d ≤ 8 ∧ m ≤ 128 := by unfold LC at *; omega
theorem LC.le7 {m d : Nat} (h : LC m d) (h2 : 2 ≤ m) : d ≤ 7 := by unfold LC at *; omega
theorem rngH {m : Nat} (h : 2 ≤ m) : rngN 0 ((m : Int) - 1) 2 = m / 2 := by
  unfold rngN
  split <;> omega
end RB

set_option maxRecDepth 100000
namespace RB
open PySem L2 PySem.Spec PyProof.Rows PySem.NumText
/-! ### what the mirror reads, written again -/
end RB

set_option maxRecDepth 100000
namespace RB
open PySem L2 PySem.Spec PyProof.Rows PySem.NumText
/-! ### what is written is read -/
end RB

set_option maxRecDepth 100000
namespace L2
open PySem PySem.Spec PyProof.Rows
/-! ### try / except C, with no name -/
section
variable {X : Cx} {x : Str} {C : Addr} {np hpos pos : Pos} {body suite : List Stmt} {b₀ : Stmt} {tb : (St → XK) → TS} {th : TS}
end
end L2

set_option maxRecDepth 100000
namespace RB
open PySem L2 PySem.Spec PyProof.Rows
/-! ### a set of texts -/
/-- the texts in the order in which each is met first -/
noncomputable def metS : List Str → List Str → List Str
  | acc, [] => acc
  | acc, x :: r => if x ∈ acc then metS acc r else metS (acc ++ [x]) r
theorem metS_nodup : ∀ (r acc : List Str), (acc ++ r).Nodup → metS acc r = acc ++ r
  | [], acc, _ => by simp [metS]
  | x :: r, acc, h => by
    have hx : x ∉ acc := fun z => by
      rw [List.nodup_append] at h
      exact h.2.2 x z x List.mem_cons_self rfl
    rw [metS, if_neg hx, metS_nodup r (acc ++ [x]) (by simpa using h)]
    simp
section
variable {prog : Program} {w : World} {A : Around} {R : Result → Shared → Prop} {I : Addr} {fp wr : List Addr} {G : Array GenState → Array GenState → Prop} {n : Nat} {P : Nat → Value → Prop} {St : Nat → Shared → Prop}
/-- what holds of a set's object at S -/
noncomputable abbrev TSet (prog : Program) (w : World) (h : Heap) (S : Addr) (acc : List Str) : Prop := h.SetOf (strKind prog w) S (fun x => decide (x ∈ acc)) acc.length
theorem TSet.kept {h h' : Heap} {S : Addr} {acc : List Str} (t : TSet prog w h S acc) (k : ∀ o, h.get? S = some o → h'.get? S = some o) : TSet prog w h' S acc := by
  obtain ⟨o, es, ep, tb, ho, rest⟩ := t
  exact ⟨o, es, ep, tb, k o ho, rest⟩
theorem set_loop (W : WalksS prog w A.in1 I fp wr G n P St) (S : Addr) (hS : S ∉ fp) (ts : List Str) (hv : ∀ i v, P i v → ∃ x t, ts[i]? = some x ∧ v = .str x t) (hl : ts.length = n) (hb : n + 1 < scanBound) :
    ∀ (k i : Nat) (acc : List Str) (s : Shared), i + k = n → acc.length ≤ i → St i s → TSet prog w s.heap S acc →
      (∀ s', Moved (S :: wr) G s s' → TSet prog w s'.heap S (metS acc (ts.drop i)) → R (.ok (.ret .none)) s') →
      codeAny (model prog w) A (.builtin "set.update.loop" ⟨[.ref S, .ref I], []⟩) R s := by
  have nw : S ∉ wr := fun z => hS (W.sub S z)
  have up : ∀ b ∈ wr, b ∈ S :: wr := fun b z => List.mem_cons_of_mem S z
  intro k
  induction k with
  | zero =>
    intro i acc s ek _ st t fin
    have e : i = n := by omega
    subst e
    refine codeAny_builtin PyProof.Rows.F.entry_set_update_loop ?_
    rw [Around.under_plainId PyProof.Rows.F.plain_set_update_loop _]
    show wpAny _ A.in1 (pyNext (.ref I) >>= _) _ _ s
    refine wpAny_bind (W.done s _ _ st fun s1 mv => ?_)
    show wpAny _ A.in1 (ret Value.none) _ _ s1
    refine wpAny_pure (fin s1 (mv.mono up) ?_)
    rw [List.drop_eq_nil_of_le (by omega)]
    exact t.kept fun o z => mv.heap S o nw z
  | succ k ih =>
    intro i acc s ek ea st t fin
    refine codeAny_builtin PyProof.Rows.F.entry_set_update_loop ?_
    rw [Around.under_plainId PyProof.Rows.F.plain_set_update_loop _]
    show wpAny _ A.in1 (pyNext (.ref I) >>= _) _ _ s
    refine wpAny_bind (W.item i s _ _ (by omega) st fun v s1 pv st1 mv => ?_)
    obtain ⟨x, tk, hx, rfl⟩ := hv i v pv
    have t1 : TSet prog w s1.heap S acc := t.kept fun o z => mv.heap S o nw z
    have hd : ts.drop i = x :: ts.drop (i + 1) := by
      have hi : i < ts.length := by omega
      rw [List.drop_eq_getElem_cons hi]
      have : ts[i] = x := by rw [List.getElem?_eq_getElem hi] at hx; exact Option.some.inj hx
      rw [this]
    show wpAny _ A.in1 (holding [Value.str x tk] (setAdd S (.str x tk)) >>= _) _ _ s1
    refine wpAny_bind (wpAny_holding ?_)
    unfold setAdd
    refine wpAny_holding ?_
    refine wpAny_bind ((strKind prog w).pyHash (k := x) (strKind_is prog w x tk) ?_)
    refine wpAny_setAddHashed_of (knd := strKind prog w) (s := { s1 with toks := s1.toks + 1 }) (strKind_is prog w x tk) rfl t1 (by omega) fun h2 same t2 => ?_
    have key : ∃ acc', TSet prog w h2 S acc' ∧ acc'.length ≤ i + 1 ∧ metS acc (ts.drop i) = metS acc' (ts.drop (i + 1)) := by
      by_cases hm : x ∈ acc
      · refine ⟨acc, SetOf_congr t2 (fun y => ?_) (by simp [hm]), by omega, by rw [hd, metS, if_pos hm]⟩
        by_cases e : y = x
        · subst e; simp [hm]
        · simp [e]
      · refine ⟨acc ++ [x], SetOf_congr t2 (fun y => ?_) (by simp [hm]), by simp; omega, by rw [hd, metS, if_neg hm]⟩
        by_cases e : y = x
        · subst e; simp
        · simp [e]
    obtain ⟨acc', t3, l3, e3⟩ := key
    refine wpAny_pure ⟨plainId_quiet PyProof.Rows.F.plain_set_update_loop _, ih (i + 1) acc' _ (by omega) l3 (W.frame _ s1 _ _ st1 (Nat.le_succ _) fun b z o e => ?_) t3 fun s4 mv4 t4 => ?_⟩
    · rw [same.2 b fun y : b = S => hS (y ▸ z)]; exact e
    · refine fin s4 (Moved.trans W.gtrans ((mv.mono up).then_heap (Nat.le_succ _) fun b o z e => ?_) mv4) (by rw [e3]; exact t4)
      rw [same.2 b fun y : b = S => z (y ▸ List.mem_cons_self)]; exact e
end
end RB

set_option maxRecDepth 100000
namespace RB
open PySem L2 PySem.Spec PyProof.Rows
section
variable {prog : Program} {w : World} {A : Around} {E : Value → Shared → Prop} {s : Shared}
/-- a new set, bare -/
noncomputable abbrev bareSet (led : Bool) : Obj := { cls := .type "set", dict := none, data := .set #[] 0 (.fresh 0 0 led) }
/-- the texts of a row of values -/
noncomputable def TextsAt (its : Array Value) (ts : List Str) : Prop := ts.length = its.size ∧ ∀ (i : Nat) (v : Value), its[i]? = some v → ∃ x t, ts[i]? = some x ∧ v = .str x t
set_option maxHeartbeats 3200000 in
theorem call_set_texts {l : Addr} {its : Array Value} {ts : List Str} {Q : Value → Shared → Prop} (calm : A.handled = none) (hl : s.heap.IsList l its) (hi : TextsAt its ts) (room : its.size + 1 < scanBound)
    (fin : ∀ (h' : Heap) (tk : Nat), TSet prog w h' s.heap.objs.size (metS [] ts) → (∀ b o, s.heap.get? b = some o → h'.get? b = some o) → Q (.ref s.heap.objs.size) { s with heap := h', toks := tk }) :
    wpAny (model prog w) A (call (.type "set") [.ref l]) Q E s := by
  have mro := F.called_set.mro
  obtain ⟨c, tl, hmro⟩ := mro
  have made := F.called_set.made
  have sub := F.called_set.sub
  have a1 := F.called_set.notType
  have a2 := F.called_set.canCreate
  have a3 := F.typeCall_set_1 (.ref l)
  refine wpAny_call (codeAny_of_tree ?_)
  show wpAny _ _ (callAny (.type "set") _) _ _ _
  refine wpAny_pure ⟨Code.quiet_builtin _ (by decide +kernel), codeAny_builtin F.entry_type_call ?_⟩
  rw [Around.under_plain (weight_type_call_type "set" [.ref l] []) rfl]
  repeat (any_goals (first | wp_step | assumption))
  refine codeAny_mono (code_set_new_1 (.ref l) (E := E) (Q₁ := fun v s1 => ∃ led : Bool, v = .ref s.heap.objs.size ∧ s1 = { s with heap := s.heap.push (bareSet led) }) fun led => ⟨led, rfl, rfl⟩) fun r s1 hr => ?_
  cases r with
  | error e => exact hr
  | ok f =>
    cases f with
    | ret v =>
      obtain ⟨led, rfl, rfl⟩ := hr
      have own : (s.heap.push (bareSet led)).get? s.heap.objs.size = some (bareSet led) := Heap.get?_push_size _ rfl
      have ty : Shared.TypeIs { s with heap := s.heap.push (bareSet led) } (.ref s.heap.objs.size) "set" := ⟨_, own, rfl⟩
      have b1 := F.called_set.init.lookup
      have b2 := F.called_set.init.bind (.ref s.heap.objs.size)
      repeat (any_goals (first | wp_step | assumption))
      refine codeAny_mono (codeAny_call_builtin (R := wants (fun r s2 => r = .none ∧ ∃ h' tk, s2 = { s with heap := h', toks := tk } ∧ TSet prog w h' s.heap.objs.size (metS [] ts) ∧ ∀ b o, s.heap.get? b = some o → h'.get? b = some o) E) F.called_set.init.plain F.entry_set_init (check_set_init_1 ty ?_)) fun r2 s2 hr2 => ?_
      · have lst : (s.heap.push (bareSet led)).IsList l its := hl.push _
        obtain ⟨ol, hol, hcl, nl, hdl⟩ := hl
        obtain ⟨cl, dc, dt, sl⟩ := ol
        have hcl' : cl = .type "list" := hcl
        have hdl' : dt = .seq its nl := hdl
        subst hcl' hdl'
        have old : l < s.heap.objs.size := Heap.lt_size hol
        have hol' : (s.heap.push (bareSet led)).get? l = some { cls := .type "list", dict := dc, data := .seq its nl, slots := sl } := Heap.get?_push_of_some _ hol
        have c1 := F.sub_list_set
        have c2 := F.sub_list_frozenset
        have c3 : (Value.type "list" == Value.type "dict") = false := by decide
        unfold Builtin.«set.__init__» noKeywords Builtin.Frozenset.updateFrom
        generalize ePI : pyIter = PI
        wp_walk
        subst ePI
        refine wpAny_pyIter_list lst ?_
        refine wpAny_bind (wpAny_runValue ?_)
        have calm3 : A.in1.in1.in1.handled = none := by simp [calm]
        have sz : (s.heap.push (bareSet led)).objs.size = s.heap.objs.size + 1 := Heap.size_push _ _
        have apart : l ≠ (s.heap.push (bareSet led)).objs.size := by rw [sz]; exact Nat.ne_of_lt (Nat.lt_succ_of_lt old)
        have free : s.heap.objs.size ∉ [(s.heap.push (bareSet led)).objs.size, l] := by
          rw [sz]
          intro z
          rcases List.mem_cons.mp z with z | z
          · exact absurd z (Nat.ne_of_lt (Nat.lt_succ_self _))
          · exact absurd (List.mem_singleton.mp z) (Nat.ne_of_gt old)
        refine set_loop ((Walks.list calm3 _ l apart its).toS) s.heap.objs.size free ts (fun i v hv => hi.2 i v hv) hi.1 room its.size 0 [] _ (by omega) (Nat.zero_le _) ⟨⟨_, Heap.get?_push_size _ rfl, rfl, rfl⟩, lst.push _⟩ ?S0 ?fin
        case S0 =>
          refine SetOf_congr ((PyProof.Rows.setObjOf_fresh (knd := strKind prog w) led).setOf (Heap.get?_push_of_some _ own) (by unfold scanBound; omega)) (fun x => ?_) rfl
          simp
        case fin =>
          rintro ⟨h5, g5, d5, tk5, os5⟩ mv t5
          have e1 : g5 = s.gens := mv.gens
          have e2 : d5 = s.drawn := mv.drawn
          have e3 : os5 = s.os := mv.os
          subst e1 e2 e3
          show wpAny _ _ _ _ _ _
          refine wpAny_pure ?_
          show wpAny _ _ (ret Value.none) _ _ _
          refine wpAny_pure ⟨rfl, h5, tk5, rfl, t5, fun b o z => ?_⟩
          have hbl := Heap.lt_size z
          refine mv.heap b o (fun y => ?_) (Heap.get?_push_of_some _ (Heap.get?_push_of_some _ z))
          rw [sz] at y
          rcases List.mem_cons.mp y with y | y
          · exact absurd y (Nat.ne_of_lt hbl)
          · exact absurd (List.mem_singleton.mp y) (Nat.ne_of_lt (Nat.lt_succ_of_lt hbl))
      · cases r2 with
        | error e => exact hr2
        | ok f2 =>
          cases f2 with
          | ret v2 =>
            obtain ⟨rfl, h6, tk6, rfl, t6, k6⟩ := hr2
            repeat (any_goals (first | wp_step | assumption))
            exact fin h6 tk6 t6 k6
          | _ => exact hr2.elim
    | _ => exact hr.elim
end
end RB

set_option maxRecDepth 100000
namespace L2
open PySem PySem.Spec PyProof.Rows RB
section
variable {X : Cx}
/-- a set of texts, as met -/
noncomputable def TxS (X : Cx) (p : Addr) (ts : List Str) : HO := .ext fun h => RB.TSet X.prog X.w h p ts
theorem texts_at : ∀ {ts : List Str} {its : List Value}, Vals (ts.map V.str) its → ts.length = its.length ∧ ∀ (i : Nat) (v : Value), its[i]? = some v → ∃ x t, ts[i]? = some x ∧ v = .str x t
  | [], _, .nil => ⟨rfl, fun i v h => by simp at h⟩
  | x :: ts, _, .cons r rr => by
    obtain ⟨h1, h2⟩ := texts_at rr
    refine ⟨by simp [h1], fun i v h => ?_⟩
    cases i with
    | zero =>
      obtain ⟨t, e⟩ := r
      have : v = .str x t := by rw [← e]; simpa using h.symm
      exact ⟨x, t, rfl, this⟩
    | succ i =>
      obtain ⟨y, t, e1, e2⟩ := h2 i v (by simpa using h)
      exact ⟨y, t, by simpa using e1, e2⟩
theorem call_setT (hc : X.calm = true) : CallR X (.type "set") (fun xs H Q => ∃ a ts, xs = [.ref a] ∧ SqL X.K H a (ts.map V.str) ∧ ts.length ≤ 1000 ∧ ∀ p, H p = none → Q (.ref p) (upd H p (TxS X p (metS [] ts)))) := by
  intro pins s σ H xs us Q I r h
  obtain ⟨a, ts, rfl, hq, hl, q⟩ := h
  obtain ⟨u, rfl, rx⟩ := vals1 r
  cases rx
  obtain ⟨its, rv, pl, hz⟩ := I.list hq
  obtain ⟨e1, e2⟩ := texts_at rv
  have sz : its.toArray.size = its.length := List.size_toArray ..
  refine call_set_texts (ts := ts) (I.ok.hd hc) pl.isList ⟨by rw [sz]; exact e1, fun i v hv => e2 i v (by simpa using hv)⟩ (by rw [sz]; unfold scanBound; omega) fun h' tk t k => ?_
  refine ⟨.ref s.heap.objs.size, _, I.laid (t' := tk) k (Nat.le_refl _) (show ObjOk X.prog X.w _ h' _ (TxS X s.heap.objs.size (metS [] ts)) from ⟨t, ?_, fun h1 h2 t1 k1 => t1.kept k1⟩), rfl, q _ (I.hok.fresh (Nat.le_refl _))⟩
  obtain ⟨o, _, _, _, ho, _⟩ := t
  exact ⟨o, ho⟩
theorem qc_setT (hc : X.calm = true) : QCall X (.type "set") (fun xs H Q => ∃ a ts, xs = [.ref a] ∧ SqL X.K H a (ts.map V.str) ∧ ts.length ≤ 1000 ∧ ∀ p, H p = none → Q (.ref p) (upd H p (TxS X p (metS [] ts)))) := ⟨call_setT hc⟩
theorem call_lenT : CallR X (.builtin "len") (fun xs H Q => ∃ a ts, xs = [.ref a] ∧ H a = some (TxS X a ts) ∧ Q (.int (ts.length : Nat)) H) := by
  intro pins s σ H xs us Q I r h
  obtain ⟨a, ts, rfl, ha, q⟩ := h
  obtain ⟨u, rfl, rx⟩ := vals1 r
  cases rx
  obtain ⟨⟨o, es, ep, tb, ho, hx, hd, _, _, hb, hf, hn⟩, _⟩ := (show ObjOk X.prog X.w H s.heap a (TxS X a ts) from I.hok a _ ha)
  have hfit : (es.size : Int) < 2 ^ 63 := by unfold scanBound at hb; omega
  exact call_len_set ho hx hd hf hfit ⟨.int ((es.size : Nat) : Int), H, I.tok _, ⟨_, rfl⟩, by rw [hn]; exact q⟩
theorem qc_lenT : QCall X (.builtin "len") (fun xs H Q => ∃ a ts, xs = [.ref a] ∧ H a = some (TxS X a ts) ∧ Q (.int (ts.length : Nat)) H) := ⟨call_lenT⟩
/-! ### startswith, endswith of a whole text -/
end
end L2

set_option maxRecDepth 100000
namespace L2
open PySem PySem.Spec PyProof.Rows
section
variable {X : Cx} {pins : List (Addr × Obj)} {σ : List (Option V)} {H : Hp} {s : Shared} {h' : Heap}
end
/-! ### for .., .. in zip(a, b) -/
end L2

set_option maxRecDepth 100000
namespace L2
open PySem PySem.Spec PyProof.Rows
section
variable {prog : Program} {w : World} {A : Around} {E : Value → Shared → Prop}
/-! ### a, b, c = a list -/
end
section
variable {X : Cx} {pos : Pos}
theorem qc_max2 (hc : X.calm = true) : QCall X (.builtin "max") (fun xs H Q => ∃ i j, xs = [.int i, .int j] ∧ Q (.int (if j > i then j else i)) H) := ⟨call_max2 hc⟩
theorem qc_min2 (hc : X.calm = true) : QCall X (.builtin "min") (fun xs H Q => ∃ i j, xs = [.int i, .int j] ∧ Q (.int (if j < i then j else i)) H) := ⟨call_min2 hc⟩
/-- a call that is known not to raise, in a def that raises nothing -/
theorem passF : PassX (CXx X.prog X.w) X (fun _ _ _ _ => False) := fun pins σ H s e s' I h => by
  obtain ⟨a, cls, H', _, _, z⟩ := h
  exact z.elim
end
end L2
namespace RB
open PySem L2 PySem.Spec PyProof.Rows
end RB

set_option maxRecDepth 100000
namespace L2
open PySem PySem.Spec PyProof.Rows
end L2
namespace RB
open PySem L2 PySem.Spec PyProof.Rows
end RB

set_option maxRecDepth 100000
namespace RB
open PySem L2 PySem.Spec PyProof.Rows
end RB

set_option maxRecDepth 100000
namespace RB
open PySem L2 PySem.Spec PyProof.Rows
end RB

set_option maxRecDepth 100000
namespace RB
open PySem L2 PySem.Spec PyProof.Rows
/-! ### reads: rows of (name, number) -/
noncomputable abbrev Rdp := Str × Int
noncomputable def rdV (p : Rdp) : List V := [.str p.1, .int p.2]
inductive IsRds (H : Hp) : List Addr → List Rdp → Prop where
  | nil : IsRds H [] []
  | cons {a : Addr} {p : Rdp} {as : List Addr} {ps : List Rdp} (h : H a = some (.tup (rdV p))) (t : IsRds H as ps) : IsRds H (a :: as) (p :: ps)
theorem IsRds.tups {H H' : Hp} (t : Tups H H') {as : List Addr} {ps : List Rdp} (h : IsRds H as ps) : IsRds H' as ps := by
  induction h with
  | nil => exact .nil
  | cons h _ ih => exact .cons (t _ _ h) ih
theorem IsRds.same {H H' : Hp} (s : Same H H') {as : List Addr} {ps : List Rdp} (h : IsRds H as ps) : IsRds H' as ps := h.tups (Same.tups s)
theorem IsRds.length {H : Hp} {as : List Addr} {ps : List Rdp} (h : IsRds H as ps) : as.length = ps.length := by
  induction h with
  | nil => rfl
  | cons _ _ ih => simp [ih]
theorem IsRds.snoc {H : Hp} {a : Addr} {p : Rdp} (h : H a = some (.tup (rdV p))) : ∀ {as : List Addr} {ps : List Rdp}, IsRds H as ps → IsRds H (as ++ [a]) (ps ++ [p])
  | _, _, .nil => .cons h .nil
  | _, _, .cons h' t => .cons h' (t.snoc h)
theorem IsRds.take {H : Hp} {as : List Addr} {ps : List Rdp} (h : IsRds H as ps) : ∀ k, IsRds H (as.take k) (ps.take k) := by
  induction h with
  | nil => intro k; rw [List.take_nil, List.take_nil]; exact .nil
  | cons h _ ih =>
    intro k
    cases k with
    | zero => exact .nil
    | succ k => exact .cons h (ih k)
theorem IsRds.drop {H : Hp} {as : List Addr} {ps : List Rdp} (h : IsRds H as ps) : ∀ k, IsRds H (as.drop k) (ps.drop k) := by
  induction h with
  | nil => intro k; rw [List.drop_nil, List.drop_nil]; exact .nil
  | cons h t ih =>
    intro k
    cases k with
    | zero => exact .cons h t
    | succ k => exact ih k
theorem IsRds.get {H : Hp} {as : List Addr} {ps : List Rdp} (h : IsRds H as ps) : ∀ (i : Nat) (a : Addr), as[i]? = some a → ∃ p, ps[i]? = some p ∧ H a = some (.tup (rdV p)) := by
  induction h with
  | nil => intro i a e; simp at e
  | @cons b p as ps h t ih =>
    intro i a e
    cases i with
    | zero => have : b = a := by simpa using e
              subst this; exact ⟨_, rfl, h⟩
    | succ i => exact ih i a (by simpa using e)
/-- the k-th of a row of refs -/
theorem ref_at {as : List Addr} {i : Nat} {x : V} (h : (as.map V.ref)[i]? = some x) : ∃ a, as[i]? = some a ∧ x = .ref a := by
  rw [List.getElem?_map] at h
  cases e : as[i]? with
  | none => rw [e] at h; cases h
  | some a => rw [e] at h; cases h; exact ⟨a, rfl, rfl⟩
noncomputable def RdOk (p : Rdp) : Prop := GName p.1 ∧ -100 ≤ p.2 ∧ p.2 ≤ 100
/-- a row of at most n reads -/
noncomputable def RowAt (H : Hp) (q : Addr) (n : Nat) : Prop := ∃ (as : List Addr) (ps : List Rdp), H q = some (.lst (as.map V.ref)) ∧ IsRds H as ps ∧ 1 ≤ ps.length ∧ ps.length ≤ n ∧ ∀ p ∈ ps, RdOk p
theorem RowAt.same {H H' : Hp} {q : Addr} {n : Nat} (s : Same H H') (h : RowAt H q n) : RowAt H' q n := by
  obtain ⟨as, ps, e, r, h1, h2, h3⟩ := h
  exact ⟨as, ps, s _ _ e, r.same s, h1, h2, h3⟩
noncomputable def spRows : Sp := fun vs H Q _ => ∃ (p : Addr) (as : List Addr) (ps : List Rdp), vs = [.ref p] ∧ H p = some (.lst (as.map V.ref)) ∧ IsRds H as ps ∧ ps.length ≤ 30 ∧ (∀ x ∈ ps, RdOk x) ∧
  ∀ (q : Addr) (qs : List Addr) (H' : Hp), Same H H' → H' q = some (.lst (qs.map V.ref)) → qs.length = (ps.length + 2) / 3 → (∀ a ∈ qs, RowAt H' a 3) → Q (.ref q) H'
noncomputable def spReading : Sp := fun vs H Q _ => ∃ q, vs = [.ref q] ∧ RowAt H q 3 ∧ ∀ a r H', Same H H' → IsR H' a r → r.Good → r.depth ≤ 3 → r.nodes ≤ 3 → Q (.ref a) H'
/-- parts to be summed -/
noncomputable def Prts (H : Hp) (d n : Nat) (as : List Addr) : Prop := ∀ a ∈ as, ∃ r, IsR H a r ∧ r.Good ∧ r.depth ≤ d ∧ r.nodes ≤ n
theorem Prts.same {H H' : Hp} {d n : Nat} {as : List Addr} (s : Same H H') (h : Prts H d n as) : Prts H' d n as := fun a ha => by
  obtain ⟨r, h1, h2⟩ := h a ha
  exact ⟨r, h1.same s, h2⟩
theorem Prts.app {H : Hp} {d n : Nat} {as bs : List Addr} (h : Prts H d n as) (g : Prts H d n bs) : Prts H d n (as ++ bs) := fun a ha => (List.mem_append.mp ha).elim (h a) (g a)
noncomputable def spSummed (k : Nat) : Sp := fun vs H Q _ => ∃ (p : Addr) (as : List Addr) (d n : Nat), vs = [.ref p] ∧ H p = some (.lst (as.map V.ref)) ∧ Prts H d n as ∧ 1 ≤ as.length ∧ as.length ≤ 2 ^ k ∧ k ≤ 6 ∧
  ∀ a r H', Same H H' → IsR H' a r → r.Good → r.depth ≤ d + k → r.nodes + 1 ≤ as.length * (n + 1) → Q (.ref a) H'
theorem three_cut {as : List Addr} {i : Nat} (h : 3 * i < as.length) : cutV (as.map V.ref) (some (0 + (i : Int) * 3)) (some (0 + (i : Int) * 3 + 3)) = ((as.drop (3 * i)).take 3).map V.ref := by
  unfold cutV
  have e0 : (0 + (i : Int) * 3) = ((3 * i : Nat) : Int) := by omega
  have e3 : (0 + (i : Int) * 3 + 3) = ((3 * i + 3 : Nat) : Int) := by omega
  rw [e3, e0, HT.sIx_nat, HT.sIx_nat, List.length_map, List.map_take, List.map_drop]
  have e1 : min (3 * i) as.length = 3 * i := by omega
  rw [e1]
  apply List.ext_getElem?
  intro j
  rw [List.getElem?_take, List.getElem?_take]
  by_cases hj : j < 3
  · rw [if_pos hj]
    by_cases hk : j < min (3 * i + 3) as.length - 3 * i
    · rw [if_pos hk]
    · rw [if_neg hk]
      symm
      rw [List.getElem?_drop, List.getElem?_eq_none_iff, List.length_map]
      omega
  · rw [if_neg hj, if_neg (by omega)]
theorem rng3 (n : Nat) : rngN 0 (n : Int) 3 = (n + 2) / 3 := by
  unfold rngN
  split <;> omega
theorem cut_to {vs : List V} {k : Nat} : cutV vs none (some (k : Int)) = vs.take k := by
  unfold cutV
  rw [HT.sIx_nat, show HT.sIx vs.length 0 none = 0 from rfl, List.drop_zero, Nat.sub_zero]
  by_cases h : k ≤ vs.length
  · rw [show min k vs.length = k by omega]
  · rw [show min k vs.length = vs.length by omega, List.take_length, List.take_of_length_le (by omega)]
theorem cut_from' {vs : List V} {k : Nat} : cutV vs (some (k : Int)) none = vs.drop k := by
  unfold cutV
  rw [HT.sIx_nat]
  show (vs.drop (min k vs.length)).take (vs.length - min k vs.length) = _
  rw [List.take_of_length_le (by rw [List.length_drop]; omega)]
  by_cases h : k ≤ vs.length
  · rw [show min k vs.length = k by omega]
  · rw [show min k vs.length = vs.length by omega, List.drop_length, List.drop_of_length_le (by omega)]
theorem fits100 {l : List Int} (hx : ∀ x ∈ l, -100 ≤ x ∧ x ≤ 100) (hn : l.length ≤ 1000) : PySem.SumFits l ∧ -100000 ≤ l.sum ∧ l.sum ≤ 100000 := by
  refine ⟨fun j hj => PyProof.Rows.sumFits_small (fun x h => ?_) (by omega) j hj, ?_⟩
  · have := hx x h
    omega
  · have := PyProof.Rows.abs_sum_le (B := 100) l hx
    omega
end RB
namespace RB
open PySem L2 PySem.Spec PyProof.Rows
theorem atI_m1 {xs : List V} (h : 1 ≤ xs.length) : atI xs (-1) = xs[xs.length - 1]? := by
  have e : ixN xs.length (-1) = some (xs.length - 1) := by
    unfold ixN
    rw [if_neg (by decide), if_pos (by omega)]
    congr 1
    omega
  unfold atI
  rw [e]; rfl
end RB

set_option maxRecDepth 100000
namespace L2
open PySem PySem.Spec PyProof.Rows
theorem mul_rep0 {t : Str} {n : Int} (h : 0 ≤ n) : Txt.mul t n = repS t n.toNat := by
  by_cases h1 : 1 ≤ n
  · exact mul_rep h1
  · have e : n = 0 := by omega
    subst e
    unfold Txt.mul
    rw [if_pos (by omega)]
    rfl
noncomputable def rMul0 : R2 := fun x y H Q => ∃ t n, x = .str t ∧ y = .int n ∧ 0 ≤ n ∧ n ≤ 1000 ∧ t.length ≤ 1000 ∧ Q (.str (repS t n.toNat)) H
theorem op_mul0 {X : Cx} : OpR X (binaryOp .Mult) rMul0 := by
  intro pins s σ H x y v u Q I rx ry h
  obtain ⟨t, n, rfl, rfl, h1, h2, h3, q⟩ := h
  obtain ⟨k, rfl⟩ := rx
  obtain ⟨k', rfl⟩ := ry
  have e63 : (2 : Int) ^ 63 = 9223372036854775808 := by decide
  refine SB.mul ⟨?_, fun hn _ => ?_, fun hn _ => ?_⟩ fun t' kk => ⟨.str _, H, I.tok kk, ⟨t', rfl⟩, by rw [mul_rep0 h1]; exact q⟩
  · rw [e63]
    simp
    omega
  · intro hgt
    have hle : (1000 : Int) ≤ ((2 : Int) ^ 63 - 1) / n := by
      rw [e63]
      exact Int.le_ediv_of_mul_le (by omega) (by omega)
    omega
  · have : t.length * n.toNat ≤ 1000 * 1000 := Nat.mul_le_mul h3 (by omega)
    exact decide_eq_false (by rw [sizeLine_eq]; omega)
theorem qg_tupK {X : Cx} {es : List Expr} {pos : Pos} {K : PySem.W.Frag} {k n : Nat} {t : TGs} (eK : X.K = K) (hc : X.calm = true) (h : QGs X es t) (hn : (assignEach es X.env).length = n := by rfl) (hst : (assignEach es X.env).findIdx? (·.1) = none := by rfl) : QG X (.Tuple es k pos) (gTup K n t) := eK ▸ qg_tup hc h hn hst
theorem qc_isiEK {X : Cx} {K : PySem.W.Frag} (eK : X.K = K) : QCall X (.builtin "isinstance") (fun xs H Q => ∃ p C cv c b, xs = [.ref p, cv] ∧ H p = some (excO (.ref C) p) ∧ ExK K C ∧ ClV cv c ∧ PySem.W.kitOne K (.ref C) c = some b ∧ Q (.bl b) H) := eK ▸ qc_isiE
theorem qop_mul0 {X : Cx} : QOp X (binaryOp .Mult) rMul0 := ⟨op_mul0⟩
end L2
namespace RB
open PySem L2 PySem.Spec PyProof.Rows
theorem SqL.same {K : PySem.W.Frag} {H H' : Hp} {a : Addr} {xs : List V} (s : Same H H') (h : SqL K H a xs) : SqL K H' a xs := by
  rcases h with (e | ⟨o, e⟩) | h
  · exact .inl (.inl (s _ _ e))
  · exact .inl (.inr ⟨o, s _ _ e⟩)
  · exact .inr h
theorem but_same {S : List Addr} {H0 H H' : Hp} (s : Same H0 H) (hS : ∀ p ∈ S, H0 p = none) (b : But S H H') : Same H0 H' := fun a o e => b a o (fun z => by rw [hS a z] at e; cases e) (s a o e)
noncomputable def spCell (K : PySem.W.Frag) : Sp := fun vs H Q _ => ∃ (a : Addr) (ns : List Int) (k : Int), vs = [.ref a, .int k] ∧ SqL K H a (ns.map V.int) ∧ 0 ≤ k ∧ ∀ n, Q (.int n) H
noncomputable def poolD (rest : Int) (mixed : Bool) (count : Int) : List (Key × V) := [(.inr "rest", .int rest), (.inr "mixed", .bl mixed), (.inr "count", .int count)]
noncomputable def PoolAt (H : Hp) (p : Addr) (c : Nat) : Prop := ∃ (rest : Int) (mixed : Bool) (count : Int), H p = some (.dK (poolD rest mixed count)) ∧ 0 ≤ count ∧ count ≤ (c : Int)
theorem PoolAt.keep {S : List Addr} {H H' : Hp} {p : Addr} {c : Nat} (h : PoolAt H p c) (b : But S H H') (hp : p ∉ S) : PoolAt H' p c := by
  obtain ⟨r, m, k, e, h⟩ := h
  exact ⟨r, m, k, b _ _ hp e, h⟩
theorem PoolAt.same {H H' : Hp} {p : Addr} {c : Nat} (h : PoolAt H p c) (b : Same H H') : PoolAt H' p c := h.keep (S := []) (But.of_same b) (by simp)
noncomputable def spPool (K : PySem.W.Frag) : Sp := fun vs H Q _ => ∃ (a : Addr) (ns : List Int) (k : Int), vs = [.ref a, .int k] ∧ SqL K H a (ns.map V.int) ∧ 0 ≤ k ∧ k ≤ 100 ∧ ∀ p H', Same H H' → H p = none → PoolAt H' p 503 → Q (.ref p) H'
noncomputable def spTake : Sp := fun vs H Q _ => ∃ (p : Addr) (c : Nat) (many : Int), vs = [.ref p, .int many] ∧ PoolAt H p c ∧ c ≤ 100000 ∧ 0 < many ∧ many.natAbs.log2 < 9000 ∧ ∀ n H', 0 ≤ n → n < many → But [p] H H' → PoolAt H' p (c + 1) → Q (.int n) H'
/-! ### the law's names -/
noncomputable def ltr (i : Nat) : Str := ⟨#[i + 97]⟩
noncomputable def nameK (k : Nat) : Str := ltr (k % 26) ++ repS (ltr (k * 7 % 26)) (k * 5 % 8)
noncomputable def spLaName : Sp := fun vs H Q _ => ∃ k : Nat, vs = [.int (k : Int)] ∧ k ≤ 1000 ∧ Q (.str (nameK k)) H
theorem ltr_at {n : Int} {i : Nat} (h : n = (i : Int)) (hi : i < 26) : atI (Str.ofString "abcdefghijklmnopqrstuvwxyz").cps.toList n = some (i + 97) := by
  subst h
  exact atI_nat (by rw [letters_cps, List.getElem?_map, List.getElem?_range hi]; rfl)
noncomputable def names26 : List Str := (List.range 26).map nameK
theorem names26_good : ∀ x ∈ names26 ++ [("qz" : Str), "xz", "jz"], GName x := by decide +kernel
theorem names26_nodup : (names26 ++ [("qz" : Str), "xz", "jz"]).Nodup := by decide +kernel
theorem pool_rest {H : Hp} {p : Addr} {a c : Int} {b : Bool} (e : H p = some (.dK (poolD a b c))) : DGet H p (.str "rest") (some (.int a)) := DGet.k (k := .inr "rest") e
theorem pool_mixed {H : Hp} {p : Addr} {a c : Int} {b : Bool} (e : H p = some (.dK (poolD a b c))) : DGet H p (.str "mixed") (some (.bl b)) := DGet.k (k := .inr "mixed") e
theorem pool_count {H : Hp} {p : Addr} {a c : Int} {b : Bool} (e : H p = some (.dK (poolD a b c))) : DGet H p (.str "count") (some (.int c)) := DGet.k (k := .inr "count") e
theorem pool_put_rest {H : Hp} {p : Addr} {a c : Int} {b : Bool} (e : H p = some (.dK (poolD a b c))) (x : Int) : DPut H p (.str "rest") (.int x) (upd H p (.dK (poolD x b c))) := DPut.k (k := .inr "rest") e (small1000 (by show 3 ≤ 1000; decide))
theorem pool_put_count {H : Hp} {p : Addr} {a c : Int} {b : Bool} (e : H p = some (.dK (poolD a b c))) (x : Int) : DPut H p (.str "count") (.int x) (upd H p (.dK (poolD a b x))) := DPut.k (k := .inr "count") e (small1000 (by show 3 ≤ 1000; decide))
end RB

set_option maxHeartbeats 4000000
namespace K38
open PySem L2 PySem.Spec PyProof.Rows RB
local macro_rules | `(tactic| walk_at "ne") => `(tactic| first | assumption | exact Ne.symm (by assumption) | exact ne_of_none (by assumption) (by assumption) | exact Ne.symm (ne_of_none (by assumption) (by assumption)))
local macro_rules | `(tactic| walk_at "heap") => `(tactic| first | assumption | exact upd_same | (refine (upd_ne (by walk_at "ne")).trans ?_; walk_at "heap"))
local macro_rules | `(tactic| walk_at "side") => `(tactic| first | with_reducible rfl | rfl | assumption | exact SqL.of (by walk_at "heap") | exact SqT.of (by walk_at "heap") | exact Or.inl (SqL.of (by walk_at "heap")) | exact Or.inr (SqT.of (by walk_at "heap")) | exact TyOf.str _ | exact TyOf.int _ | exact TyOf.bl _ | exact TyOf.tup (by walk_at "heap") | exact Or.inl ⟨rfl, _, SqL.of (by walk_at "heap")⟩ | exact Or.inl ⟨_, SqL.of (by walk_at "heap"), rfl⟩ | exact kit_same _ | exact Or.inl (by assumption) | exact Or.inr (by assumption) | walk_at "heap" | omega | (show _ ≤ sizeLine; decide) | (show _ < sizeLine; decide) | exact Or.inr ⟨by decide, by decide⟩ | exact Or.inl ⟨by decide, by decide⟩ | exact Or.inl ⟨by omega, by omega⟩ | exact Or.inr ⟨by omega, by omega⟩ | exact ⟨by omega, by decide⟩ | exact ⟨by omega, by assumption⟩ | exact ⟨by decide, by decide, by decide⟩ | exact ⟨_, SqT.of (by walk_at "heap")⟩ | exact ⟨_, SqL.of (by walk_at "heap")⟩ | (intro z; exact absurd (show (1 : Nat) = 0 from z.1) (by decide)) | (show Nat.log2 _ < 9000; decide +kernel) | ((rw [sizeLine_eq]); (try simp only [len_app]); omega) | exact Nat.le_of_lt (small1000 (by (simp only [List.length_cons, List.length_nil]); omega)) | decide +kernel)
local macro_rules | `(tactic| walk_at "v") => `(tactic| first
  | ((apply Exists.intro); (repeat apply Exists.intro); (refine And.intro ?_ ?_); walk_at "side")
  | ((refine And.intro ?_ ?_); walk_at "side"))
local macro_rules | `(tactic| walk_at "vs") => `(tactic| repeat walk_at "v")

local macro_rules | `(tactic| walk_at "side") => `(tactic| first | exact lk_text _ _ | exact lk_place _ _ | exact Nat.le_of_ble_eq_true rfl)
noncomputable def top (i : Nat) : Stmt := PySem.Challenge.pw_madeagain_k38_no_read.main.body.getD i (.Pass ⟨0, 0, 0, 0⟩)
noncomputable def mtop (i j : Nat) : Stmt := match top i with
  | .ClassDef _ _ _ b _ _ _ _ _ _ _ => b.getD j (.Pass ⟨0, 0, 0, 0⟩)
  | _ => .Pass ⟨0, 0, 0, 0⟩

section
variable {P : Program} {w : World} {K : PySem.W.Frag} {mg : Str → Option Value} {base : Heap}
noncomputable abbrev s_is_whole_number : Stmt := top 16
theorem sc_is_whole_number : FnScope ["thing"] ["thing"] (defScope s_is_whole_number) := ⟨rfl, rfl, rfl, by decide +kernel, rfl, by decide +kernel, by decide +kernel⟩
theorem gl_is_whole_number_isinstance : (defScope s_is_whole_number).names.lookup ("isinstance" : Str) = some NameKind.globalImplicit := by decide +kernel
theorem gl_is_whole_number_bool : (defScope s_is_whole_number).names.lookup ("bool" : Str) = some NameKind.globalImplicit := by decide +kernel
theorem nn_is_whole_number_bool : ("bool" : Str) ≠ "__name__" := by decide +kernel
theorem db_is_whole_number_bool : (("bool" : Str) == ("__debug__" : Str)) = false := by decide +kernel
theorem vo_is_whole_number_thing : VarOk (defScope s_is_whole_number) "thing" := by decide +kernel
theorem nn_is_whole_number_isinstance : ("isinstance" : Str) ≠ "__name__" := by decide +kernel
theorem db_is_whole_number_isinstance : (("isinstance" : Str) == ("__debug__" : Str)) = false := by decide +kernel
theorem gl_is_whole_number_int : (defScope s_is_whole_number).names.lookup ("int" : Str) = some NameKind.globalImplicit := by decide +kernel
theorem nn_is_whole_number_int : ("int" : Str) ≠ "__name__" := by decide +kernel
theorem db_is_whole_number_int : (("int" : Str) == ("__debug__" : Str)) = false := by decide +kernel
theorem ok_is_whole_number {f : Addr} {fd : FuncData} (T_is_whole_number : FnT K mg "is_whole_number" s_is_whole_number ["thing"] f fd) (T : Blt mg) (kd : Kinds K) : FnOk P w K mg base CX0 1 f fd ["thing"] (spWhole K) := by
  refine T_is_whole_number.F.okQ sc_is_whole_number (fun vs H Q E h => ?_) (fun cdv A outer s H vs Q E hr h => ?_)
  · obtain ⟨v, t, rfl, _⟩ := h
    rfl
  obtain ⟨v, t, rfl, ht, q⟩ := h
  refine ⟨_, (qss_one (qs_ret (qe_and (qe_callB qc_isi gl_is_whole_number_isinstance T.b_isinstance bt_isinstance (qa_N (qe_var 0 vo_is_whole_number_thing) (qa_N (qe_bltn (v := .ty "int") gl_is_whole_number_int T.b_int bt_int rfl nn_is_whole_number_int db_is_whole_number_int) qa_nil)) nn_is_whole_number_isinstance db_is_whole_number_isinstance) (qe_one (qe_not (qe_callB qc_isi gl_is_whole_number_isinstance T.b_isinstance bt_isinstance (qa_N (qe_var 0 vo_is_whole_number_thing) (qa_N (qe_bltn (v := .ty "bool") gl_is_whole_number_bool T.b_bool bt_bool rfl nn_is_whole_number_bool db_is_whole_number_bool) qa_nil)) nn_is_whole_number_isinstance db_is_whole_number_isinstance)))))), ?_⟩
  have h1 := ht.ty
  have h2 := ht.isi kd (c := "int") (by simp [tys])
  have h3 := ht.isi kd (c := "bool") (by simp [tys])
  walk_at "vs"
  cases ht with
  | bl b => walk_at "vs"; exact q
  | int i => walk_at "vs"; exact q
  | non => exact q
  | str x => exact q
  | tup e h => exact q
  | oth h hT k => rcases hT with rfl | rfl <;> exact q
noncomputable abbrev s_is_name : Stmt := top 17
theorem sc_is_name : FnScope ["thing"] ["thing"] (defScope s_is_name) := ⟨rfl, rfl, rfl, by decide +kernel, rfl, by decide +kernel, by decide +kernel⟩
theorem gl_is_name_len : (defScope s_is_name).names.lookup ("len" : Str) = some NameKind.globalImplicit := by decide +kernel
theorem vo_is_name_thing : VarOk (defScope s_is_name) "thing" := by decide +kernel
theorem nn_is_name_len : ("len" : Str) ≠ "__name__" := by decide +kernel
theorem db_is_name_len : (("len" : Str) == ("__debug__" : Str)) = false := by decide +kernel
theorem gl_is_name_MOST_LETTERS : (defScope s_is_name).names.lookup ("MOST_LETTERS" : Str) = some NameKind.globalImplicit := by decide +kernel
theorem db_is_name_MOST_LETTERS : (("MOST_LETTERS" : Str) == ("__debug__" : Str)) = false := by decide +kernel
theorem gl_is_name_isinstance : (defScope s_is_name).names.lookup ("isinstance" : Str) = some NameKind.globalImplicit := by decide +kernel
theorem gl_is_name_str : (defScope s_is_name).names.lookup ("str" : Str) = some NameKind.globalImplicit := by decide +kernel
theorem nn_is_name_str : ("str" : Str) ≠ "__name__" := by decide +kernel
theorem db_is_name_str : (("str" : Str) == ("__debug__" : Str)) = false := by decide +kernel
theorem nn_is_name_isinstance : ("isinstance" : Str) ≠ "__name__" := by decide +kernel
theorem db_is_name_isinstance : (("isinstance" : Str) == ("__debug__" : Str)) = false := by decide +kernel
theorem gl_is_name_all : (defScope s_is_name).names.lookup ("all" : Str) = some NameKind.globalImplicit := by decide +kernel
theorem db_is_name_LETTERS : (("LETTERS" : Str) == ("__debug__" : Str)) = false := by decide +kernel
theorem nn_is_name_all : ("all" : Str) ≠ "__name__" := by decide +kernel
theorem db_is_name_all : (("all" : Str) == ("__debug__" : Str)) = false := by decide +kernel
theorem ok_is_name {f : Addr} {fd : FuncData} {tL tM : Tok} (T_is_name : FnT K mg "is_name" s_is_name ["thing"] f fd) (T : Blt mg) (kd : Kinds K) (mLT : mg "LETTERS" = some (.str "abcdefghijklmnopqrstuvwxyz" tL)) (mML : mg "MOST_LETTERS" = some (.int 8 tM)) :
    FnOk P w K mg base CX0 1 f fd ["thing"] (spIsName K) := by
  refine T_is_name.F.okQ sc_is_name (fun vs H Q E h => ?_) (fun cdv A outer s H vs Q E hr h => ?_)
  · obtain ⟨v, t, rfl, _⟩ := h
    rfl
  obtain ⟨v, t, rfl, ht, hsh, q⟩ := h
  refine ⟨_, (qss_cons (qs_if (qt_w (qw_or (qt_not (qt_val (qe_callB qc_isi gl_is_name_isinstance T.b_isinstance bt_isinstance (qa_N (qe_var 0 vo_is_name_thing) (qa_N (qe_bltn (v := .ty "str") gl_is_name_str T.b_str bt_str rfl nn_is_name_str db_is_name_str) qa_nil)) nn_is_name_isinstance db_is_name_isinstance))) (qw_or1 (qt_not (qt_chain qop_le qop_le qe_int (qe_callB qc_len_str gl_is_name_len T.b_len bt_len (qa_N (qe_var 0 vo_is_name_thing) qa_nil) nn_is_name_len db_is_name_len) (qe_glob (v := .int 8) gl_is_name_MOST_LETTERS mML ⟨_, rfl⟩ db_is_name_MOST_LETTERS)))))) (qss_one (qs_ret qe_bl)) qss_nil)
    (qss_one (qs_ret (qe_callB (qc_allB rfl) gl_is_name_all T.b_all bt_all (qa_M (qe_comp rfl (n := 1) (fr := []) (N := ["sign"]) (cs_mk (scX := defScope s_is_name) (NX := ["thing"]) rfl rfl (by decide +kernel)) (qi_str (qe_var 0 vo_is_name_thing)) (fun _ _ _ _ _ => (qgx (i := 0) (show List.Nodup (α := Str) ["sign"] by decide) (locC (by decide +kernel)))) (fun _ _ _ _ _ => qi_nil) (fun _ _ _ _ _ => (qe_cmp qop_in_str (qe_var 0 (VarC.ok (by decide +kernel))) (qe_glob (v := .str "abcdefghijklmnopqrstuvwxyz") (glC (by decide +kernel)) mLT ⟨_, rfl⟩ db_is_name_LETTERS) rfl))) qa_nil) nn_is_name_all db_is_name_all)))), ?_⟩
  have h1 := ht.ty
  have h2 := ht.isi kd (c := "str") (by simp [tys])
  walk_at "vs"
  cases ht with
  | non => exact q _ (Same.refl _)
  | bl b => exact q _ (Same.refl _)
  | int i => exact q _ (Same.refl _)
  | tup e h => exact q _ (Same.refl _)
  | oth h hT k => rcases hT with rfl | rfl <;> exact q _ (Same.refl _)
  | str x =>
    have hl := hsh.len
    walk_at "vs"
    refine ite2 (fun c1 => ?_) (fun c1 => ?_)
    · have c1' : 1 ≤ (x.length : Int) := by simpa using c1
      walk_at "vs"
      refine ite2 (fun c2 => ?_) (fun c2 => ?_)
      · have c2' : ¬ (x.length : Int) ≤ 8 := by simpa using c2
        walk_at "vs"
        have e : nameT (.str x) = false := decide_eq_false fun g => c2' (by have := g.2.1; omega)
        rw [e] at q
        exact q _ (Same.refl _)
      · have c2' : (x.length : Int) ≤ 8 := by simpa using c2
        walk_at "vs"
        intro D hD
        refine comp_str (fun i σ' H' => (∃ z, σ' = [z]) ∧ Same H H' ∧ H' D = some (.lst (((x.cps.toList.take i).map fun c => decide (isLow c)).map V.bl))) ?_ ?_ ?_
        · exact ⟨⟨none, rfl⟩, same_new _ hD, upd_same⟩
        · intro i c σ' H' hi hP
          obtain ⟨⟨z, rfl⟩, hs, hd⟩ := hP
          have hz : (((x.cps.toList.take i).map fun c => decide (isLow c)).map V.bl).length < sizeLine := by
            rw [List.length_map, List.length_map, List.length_take]
            have : x.cps.toList.length = x.length := by simp [Str.length]
            exact small1000 (by omega)
          walk_at "vs"
          refine ⟨⟨_, rfl⟩, same_updN _ hD hs, ?_⟩
          have hi' : x.cps.toList[i]? = some c := by simpa using hi
          rw [upd_same, low_iff, List.take_succ, hi', List.map_append, List.map_append]
          rfl
        · intro σ' H' hP
          obtain ⟨_, hs, hd⟩ := hP
          walk_at "vs"
          have e : nameT (.str x) = ((List.map (fun c => decide (isLow c)) (List.take x.cps.size x.cps.toList)).all id) := by
            rw [Bool.eq_iff_iff, show nameT (.str x) = decide (GName x) from rfl, decide_eq_true_eq, List.take_of_length_le (by simp), List.all_map, List.all_eq_true]
            constructor
            · intro g c hc
              exact decide_eq_true (g.2.2 c hc)
            · intro g
              exact ⟨by omega, by omega, fun c hc => of_decide_eq_true (g c hc)⟩
          rw [e] at q
          exact q _ hs
    · have c1' : ¬ 1 ≤ (x.length : Int) := by simpa using c1
      walk_at "vs"
      have e : nameT (.str x) = false := decide_eq_false fun g => c1' (by have := g.1; omega)
      rw [e] at q
      exact q _ (Same.refl _)
noncomputable abbrev s_is_choice : Stmt := top 18
theorem sc_is_choice : FnScope ["thing"] ["thing"] (defScope s_is_choice) := ⟨rfl, rfl, rfl, by decide +kernel, rfl, by decide +kernel, by decide +kernel⟩
theorem gl_is_choice_len : (defScope s_is_choice).names.lookup ("len" : Str) = some NameKind.globalImplicit := by decide +kernel
theorem vo_is_choice_thing : VarOk (defScope s_is_choice) "thing" := by decide +kernel
theorem nn_is_choice_len : ("len" : Str) ≠ "__name__" := by decide +kernel
theorem db_is_choice_len : (("len" : Str) == ("__debug__" : Str)) = false := by decide +kernel
theorem gl_is_choice_MOST_CHOICES : (defScope s_is_choice).names.lookup ("MOST_CHOICES" : Str) = some NameKind.globalImplicit := by decide +kernel
theorem db_is_choice_MOST_CHOICES : (("MOST_CHOICES" : Str) == ("__debug__" : Str)) = false := by decide +kernel
theorem gl_is_choice_isinstance : (defScope s_is_choice).names.lookup ("isinstance" : Str) = some NameKind.globalImplicit := by decide +kernel
theorem gl_is_choice_tuple : (defScope s_is_choice).names.lookup ("tuple" : Str) = some NameKind.globalImplicit := by decide +kernel
theorem nn_is_choice_tuple : ("tuple" : Str) ≠ "__name__" := by decide +kernel
theorem db_is_choice_tuple : (("tuple" : Str) == ("__debug__" : Str)) = false := by decide +kernel
theorem nn_is_choice_isinstance : ("isinstance" : Str) ≠ "__name__" := by decide +kernel
theorem db_is_choice_isinstance : (("isinstance" : Str) == ("__debug__" : Str)) = false := by decide +kernel
theorem gl_is_choice_all : (defScope s_is_choice).names.lookup ("all" : Str) = some NameKind.globalImplicit := by decide +kernel
theorem db_is_choice_is_name : (("is_name" : Str) == ("__debug__" : Str)) = false := by decide +kernel
theorem nn_is_choice_all : ("all" : Str) ≠ "__name__" := by decide +kernel
theorem db_is_choice_all : (("all" : Str) == ("__debug__" : Str)) = false := by decide +kernel
theorem ok_is_choice {f g : Addr} {fd gd : FuncData} {tM : Tok} (T_is_choice : FnT K mg "is_choice" s_is_choice ["thing"] f fd) (T_is_name : FnT K mg "is_name" s_is_name ["thing"] g gd)
    (G_is_name : FnOk P w K mg base CX0 1 g gd ["thing"] (spIsName K)) (T : Blt mg) (kd : Kinds K) (mMC : mg "MOST_CHOICES" = some (.int 9 tM)) :
    FnOk P w K mg base CX0 2 f fd ["thing"] (spChoice K) := by
  refine T_is_choice.F.okQ sc_is_choice (fun vs H Q E h => ?_) (fun cdv A outer s H vs Q E hr h => ?_)
  · obtain ⟨v, t, rfl, _⟩ := h
    rfl
  obtain ⟨v, t, rfl, ht, hsh, q⟩ := h
  refine ⟨_, (qss_cons (qs_if (qt_w (qw_or (qt_not (qt_val (qe_callB qc_isi gl_is_choice_isinstance T.b_isinstance bt_isinstance (qa_N (qe_var 0 vo_is_choice_thing) (qa_N (qe_bltn (v := .ty "tuple") gl_is_choice_tuple T.b_tuple bt_tuple rfl nn_is_choice_tuple db_is_choice_tuple) qa_nil)) nn_is_choice_isinstance db_is_choice_isinstance))) (qw_or1 (qt_not (qt_chain qop_le qop_le qe_int (qe_callB qc_len_seq gl_is_choice_len T.b_len bt_len (qa_N (qe_var 0 vo_is_choice_thing) qa_nil) nn_is_choice_len db_is_choice_len) (qe_glob (v := .int 9) gl_is_choice_MOST_CHOICES mMC ⟨_, rfl⟩ db_is_choice_MOST_CHOICES)))))) (qss_one (qs_ret qe_bl)) qss_nil)
    (qss_one (qs_ret (qe_callB (qc_allB rfl) gl_is_choice_all T.b_all bt_all (qa_M (qe_comp rfl (n := 1) (fr := []) (N := ["name"]) (cs_mk (scX := defScope s_is_choice) (NX := ["thing"]) rfl rfl (by decide +kernel)) (qi_tup (qe_var 0 vo_is_choice_thing)) (fun _ _ _ _ _ => (qgx (i := 0) (show List.Nodup (α := Str) ["name"] by decide) (locC (by decide +kernel)))) (fun _ _ _ _ _ => qi_nil) (fun _ _ _ _ _ => (qe_call (G_is_name.mono (by omega)) hr (glC (by decide +kernel)) T_is_name.m T_is_name.F.kp T_is_name.b .nil pass0 (qa_N (qe_var 0 (VarC.ok (by decide +kernel))) qa_nil) db_is_choice_is_name))) qa_nil) nn_is_choice_all db_is_choice_all)))), ?_⟩
  have h1 := ht.ty
  have h2 := ht.isi kd (c := "tuple") (by simp [tys])
  walk_at "vs"
  cases ht with
  | non => exact q _ (Same.refl _)
  | bl b => exact q _ (Same.refl _)
  | int i => exact q _ (Same.refl _)
  | str x => exact q _ (Same.refl _)
  | oth h hT k => rcases hT with rfl | rfl <;> exact q _ (Same.refl _)
  | @tup a ws ts e h =>
    have hl := h.length
    walk_at "vs"
    refine ite2 (fun c1 => ?_) (fun c1 => ?_)
    · have c1' : 1 ≤ (ws.length : Int) := by simpa using c1
      walk_at "vs"
      refine ite2 (fun c2 => ?_) (fun c2 => ?_)
      · have c2' : ¬ (ws.length : Int) ≤ 9 := by simpa using c2
        walk_at "vs"
        have ee : choiceT (.tup ts) = false := by
          show (decide (1 ≤ ts.length) && decide (ts.length ≤ 9) && ts.all nameT) = false
          rw [decide_eq_false (show ¬ ts.length ≤ 9 by omega)]; simp
        rw [ee] at q
        exact q _ (Same.refl _)
      · have c2' : (ws.length : Int) ≤ 9 := by simpa using c2
        walk_at "vs"
        intro D hD
        refine comp_tup (xs := ws) (fun i σ' H' => (∃ z, σ' = [z]) ∧ Same H H' ∧ H' D = some (.lst (((ts.take i).map nameT).map V.bl))) ?_ ?_ ?_ ?_
        · exact ⟨⟨none, rfl⟩, same_new _ hD, upd_same⟩
        · intro i σ' H' _ hP
          exact SqT.of (hP.2.1 _ _ e)
        · intro i x σ' H' hi hP
          obtain ⟨⟨z, rfl⟩, hs, hd⟩ := hP
          obtain ⟨t, ht1, ht2⟩ := h.get hi
          have ht3 := ht2.same hs
          have ht4 := hsh.of t (List.mem_of_getElem? ht1)
          have hz : (((ts.take i).map nameT).map V.bl).length < sizeLine := by
            rw [List.length_map, List.length_map, List.length_take]; exact small1000 (by omega)
          walk_at "vs"
          intro H5 s5
          have hd5 := s5 _ _ hd
          walk_at "vs"
          refine ⟨⟨_, rfl⟩, same_updN _ hD (hs.trans s5), ?_⟩
          rw [upd_same, List.take_succ, ht1, List.map_append, List.map_append]
          rfl
        · intro σ' H' hP
          obtain ⟨_, hs, hd⟩ := hP
          walk_at "vs"
          have ee : choiceT (.tup ts) = (((ts.take ws.length).map nameT).all id) := by
            show (decide (1 ≤ ts.length) && decide (ts.length ≤ 9) && ts.all nameT) = _
            rw [decide_eq_true (show 1 ≤ ts.length by omega), decide_eq_true (show ts.length ≤ 9 by omega), hl, List.take_length, List.all_map]
            rfl
          rw [ee] at q
          exact q _ hs
    · have c1' : ¬ 1 ≤ (ws.length : Int) := by simpa using c1
      walk_at "vs"
      have ee : choiceT (.tup ts) = false := by
        show (decide (1 ≤ ts.length) && decide (ts.length ≤ 9) && ts.all nameT) = false
        rw [decide_eq_false (show ¬ 1 ≤ ts.length by omega)]; simp
      rw [ee] at q
      exact q _ (Same.refl _)
end

section
variable {P : Program} {w : World} {K : PySem.W.Frag} {mg : Str → Option Value} {base : Heap}
noncomputable abbrev s_has_shape : Stmt := top 19
theorem sc_has_shape : FnScope ["thing", "kind"] ["thing"] (defScope s_has_shape) := ⟨rfl, rfl, rfl, by decide +kernel, rfl, by decide +kernel, by decide +kernel⟩
theorem gl_has_shape_isinstance : (defScope s_has_shape).names.lookup ("isinstance" : Str) = some NameKind.globalImplicit := by decide +kernel
theorem gl_has_shape_str : (defScope s_has_shape).names.lookup ("str" : Str) = some NameKind.globalImplicit := by decide +kernel
theorem nn_has_shape_str : ("str" : Str) ≠ "__name__" := by decide +kernel
theorem db_has_shape_str : (("str" : Str) == ("__debug__" : Str)) = false := by decide +kernel
theorem vo_has_shape_thing : VarOk (defScope s_has_shape) "thing" := by decide +kernel
theorem nn_has_shape_isinstance : ("isinstance" : Str) ≠ "__name__" := by decide +kernel
theorem db_has_shape_isinstance : (("isinstance" : Str) == ("__debug__" : Str)) = false := by decide +kernel
theorem gl_has_shape_len : (defScope s_has_shape).names.lookup ("len" : Str) = some NameKind.globalImplicit := by decide +kernel
theorem nn_has_shape_len : ("len" : Str) ≠ "__name__" := by decide +kernel
theorem db_has_shape_len : (("len" : Str) == ("__debug__" : Str)) = false := by decide +kernel
theorem gl_has_shape_tuple : (defScope s_has_shape).names.lookup ("tuple" : Str) = some NameKind.globalImplicit := by decide +kernel
theorem nn_has_shape_tuple : ("tuple" : Str) ≠ "__name__" := by decide +kernel
theorem db_has_shape_tuple : (("tuple" : Str) == ("__debug__" : Str)) = false := by decide +kernel
theorem lo_has_shape_kind : Loc (defScope s_has_shape) "kind" := by decide +kernel
theorem vo_has_shape_kind : VarOk (defScope s_has_shape) "kind" := by decide +kernel
theorem gl_has_shape_is_whole_number : (defScope s_has_shape).names.lookup ("is_whole_number" : Str) = some NameKind.globalImplicit := by decide +kernel
theorem db_has_shape_is_whole_number : (("is_whole_number" : Str) == ("__debug__" : Str)) = false := by decide +kernel
theorem gl_has_shape_is_name : (defScope s_has_shape).names.lookup ("is_name" : Str) = some NameKind.globalImplicit := by decide +kernel
theorem db_has_shape_is_name : (("is_name" : Str) == ("__debug__" : Str)) = false := by decide +kernel
theorem gl_has_shape_is_choice : (defScope s_has_shape).names.lookup ("is_choice" : Str) = some NameKind.globalImplicit := by decide +kernel
theorem db_has_shape_is_choice : (("is_choice" : Str) == ("__debug__" : Str)) = false := by decide +kernel
theorem gl_has_shape_WITHIN : (defScope s_has_shape).names.lookup ("WITHIN" : Str) = some NameKind.globalImplicit := by decide +kernel
theorem db_has_shape_WITHIN : (("WITHIN" : Str) == ("__debug__" : Str)) = false := by decide +kernel
theorem ok_has_shape {f g1 g2 g3 aW : Addr} {fd gd1 gd2 gd3 : FuncData} (T_has_shape : FnT K mg "has_shape" s_has_shape ["thing"] f fd)
    (T_is_whole_number : FnT K mg "is_whole_number" s_is_whole_number ["thing"] g1 gd1) (G_is_whole_number : FnOk P w K mg base CX0 1 g1 gd1 ["thing"] (spWhole K))
    (T_is_name : FnT K mg "is_name" s_is_name ["thing"] g2 gd2) (G_is_name : FnOk P w K mg base CX0 1 g2 gd2 ["thing"] (spIsName K))
    (T_is_choice : FnT K mg "is_choice" s_is_choice ["thing"] g3 gd3) (G_is_choice : FnOk P w K mg base CX0 2 g3 gd3 ["thing"] (spChoice K))
    (T : Blt mg) (kd : Kinds K) (mW : mg "WITHIN" = some (.ref aW)) (TW : Tab P w K aW withinD) : FnOk P w K mg base CX0 3 f fd ["thing"] (spShape K) := by
  refine T_has_shape.F.okQ sc_has_shape (fun vs H Q E h => ?_) (fun cdv A outer s H vs Q E hr h => ?_)
  · obtain ⟨v, t, rfl, _⟩ := h
    rfl
  obtain ⟨v, t, rfl, ht, hsh, q⟩ := h
  refine ⟨_, (qss_cons (qs_if (qt_w (qw_or (qt_not (qt_val (qe_callB qc_isi gl_has_shape_isinstance T.b_isinstance bt_isinstance (qa_N (qe_var 0 vo_has_shape_thing) (qa_N (qe_bltn (v := .ty "tuple") gl_has_shape_tuple T.b_tuple bt_tuple rfl nn_has_shape_tuple db_has_shape_tuple) qa_nil)) nn_has_shape_isinstance db_has_shape_isinstance))) (qw_or (qt_cmp qop_eq (qe_callB qc_len_seq gl_has_shape_len T.b_len bt_len (qa_N (qe_var 0 vo_has_shape_thing) qa_nil) nn_has_shape_len db_has_shape_len) qe_int (nomarkQ _)) (qw_or1 (qt_not (qt_val (qe_callB qc_isi gl_has_shape_isinstance T.b_isinstance bt_isinstance (qa_S (qe_ix qix_tup (qe_var 0 vo_has_shape_thing) qe_int) (qa_N (qe_bltn (v := .ty "str") gl_has_shape_str T.b_str bt_str rfl nn_has_shape_str db_has_shape_str) qa_nil)) nn_has_shape_isinstance db_has_shape_isinstance))))))) (qss_one (qs_ret qe_bl)) qss_nil)
    (qss_cons (qs_set (i := 1) sc_has_shape.nd rfl lo_has_shape_kind (qe_ix qix_tup (qe_var 0 vo_has_shape_thing) qe_int))
    (qss_cons (qs_if (qt_cmp qop_eq (qe_var 1 vo_has_shape_kind) qe_str (nomarkQ _)) (qss_one (qs_ret (qe_and (qe_cmp qop_eq (qe_callB qc_len_seq gl_has_shape_len T.b_len bt_len (qa_N (qe_var 0 vo_has_shape_thing) qa_nil) nn_has_shape_len db_has_shape_len) qe_int (nomarkQ _)) (qe_one (qe_call (G_is_whole_number.mono (by omega)) hr gl_has_shape_is_whole_number T_is_whole_number.m T_is_whole_number.F.kp T_is_whole_number.b .nil pass0 (qa_S (qe_ix qix_tup (qe_var 0 vo_has_shape_thing) qe_int) qa_nil) db_has_shape_is_whole_number))))) qss_nil)
    (qss_cons (qs_if (qt_cmp qop_eq (qe_var 1 vo_has_shape_kind) qe_str (nomarkQ _)) (qss_one (qs_ret (qe_and (qe_cmp qop_eq (qe_callB qc_len_seq gl_has_shape_len T.b_len bt_len (qa_N (qe_var 0 vo_has_shape_thing) qa_nil) nn_has_shape_len db_has_shape_len) qe_int (nomarkQ _)) (qe_one (qe_call (G_is_name.mono (by omega)) hr gl_has_shape_is_name T_is_name.m T_is_name.F.kp T_is_name.b .nil pass0 (qa_S (qe_ix qix_tup (qe_var 0 vo_has_shape_thing) qe_int) qa_nil) db_has_shape_is_name))))) qss_nil)
    (qss_cons (qs_if (qt_cmp qop_eq (qe_var 1 vo_has_shape_kind) qe_str (nomarkQ _)) (qss_one (qs_ret (qe_and (qe_cmp qop_eq (qe_callB qc_len_seq gl_has_shape_len T.b_len bt_len (qa_N (qe_var 0 vo_has_shape_thing) qa_nil) nn_has_shape_len db_has_shape_len) qe_int (nomarkQ _)) (qe_one (qe_call (G_is_choice.mono (by omega)) hr gl_has_shape_is_choice T_is_choice.m T_is_choice.F.kp T_is_choice.b .nil pass0 (qa_S (qe_ix qix_tup (qe_var 0 vo_has_shape_thing) qe_int) qa_nil) db_has_shape_is_choice))))) qss_nil)
    (qss_one (qs_ret (qe_and (qe_cmp (qop_inTab TW) (qe_var 1 vo_has_shape_kind) (qe_glob (v := .ref aW) gl_has_shape_WITHIN mW rfl db_has_shape_WITHIN) rfl) (qe_one (qe_cmp qop_eq (qe_callB qc_len_seq gl_has_shape_len T.b_len bt_len (qa_N (qe_var 0 vo_has_shape_thing) qa_nil) nn_has_shape_len db_has_shape_len) (qe_op qop_add qe_int (qe_ix (qix_tab TW) (qe_glob (v := .ref aW) gl_has_shape_WITHIN mW rfl db_has_shape_WITHIN) (qe_var 1 vo_has_shape_kind))) (nomarkQ _))))))))))), ?_⟩
  have h1 := ht.ty
  have h2 := ht.isi kd (c := "tuple") (by simp [tys])
  walk_at "vs"
  cases ht with
  | non => exact q _ (Same.refl _)
  | bl b => exact q _ (Same.refl _)
  | int i => exact q _ (Same.refl _)
  | str x => exact q _ (Same.refl _)
  | oth h hT k => rcases hT with rfl | rfl <;> exact q _ (Same.refl _)
  | @tup a ws ts e h =>
    cases h with
    | nil => walk_at "vs"; exact q _ (Same.refl _)
    | @cons x tx vs ts hx hr' =>
      have hl := hr'.length
      have h3 := hx.ty
      have h4 := hx.isi kd (c := "str") (by simp [tys])
      have at0 : atI (x :: vs) 0 = some x := atI_nat (j := 0) rfl
      walk_at "vs"
      cases hx with
      | non => exact q _ (Same.refl _)
      | bl b => exact q _ (Same.refl _)
      | int i => exact q _ (Same.refl _)
      | tup _ _ => exact q _ (Same.refl _)
      | oth h hT k => rcases hT with rfl | rfl <;> exact q _ (Same.refl _)
      | str k =>
        walk_at "vs"
        refine ite2 (fun c1 => ?_) (fun c1 => ?_)
        · have hk : k = "number" := V.str.inj (of_decide_eq_true c1)
          subst hk
          walk_at "vs"
          refine ite2 (fun c2 => ?_) (fun c2 => ?_)
          · have c3 := len_of.mp (of_decide_eq_true c2)
            cases hr' with
            | nil => simp at c3
            | @cons v1 t1 vs1 ts1 hv1 hr1 =>
              cases hr1 with
              | cons _ _ => simp at c3; omega
              | nil =>
                walk_at "vs"
                have ee : (shapeT (.tup [.str "number", t1])).isSome = wholeT t1 := by rw [shape_num]; cases wholeT t1 <;> rfl
                rw [ee] at q
                exact q _ (Same.refl _)
          · have c3 : ¬ (vs.length : Int) = 2 - 1 := fun z => c2 (decide_eq_true (len_of.mpr z))
            rw [shape_len1 (.inl rfl) (by omega)] at q
            exact q _ (Same.refl _)
        · walk_at "vs"
          refine ite2 (fun c2 => ?_) (fun c2 => ?_)
          · have hk : k = "read" := V.str.inj (of_decide_eq_true c2)
            subst hk
            walk_at "vs"
            refine ite2 (fun c2 => ?_) (fun c2 => ?_)
            · have c3 := len_of.mp (of_decide_eq_true c2)
              cases hr' with
              | nil => simp at c3
              | @cons v1 t1 vs1 ts1 hv1 hr1 =>
                cases hr1 with
                | cons _ _ => simp at c3; omega
                | nil =>
                  have hs1 := hsh.of t1 (by simp)
                  walk_at "vs"
                  intro H5 s5
                  have ee : (shapeT (.tup [.str "read", t1])).isSome = nameT t1 := by rw [shape_rd]; cases nameT t1 <;> rfl
                  rw [ee] at q
                  exact q _ s5
            · have c3 : ¬ (vs.length : Int) = 2 - 1 := fun z => c2 (decide_eq_true (len_of.mpr z))
              rw [shape_len1 (.inr rfl) (by omega)] at q
              exact q _ (Same.refl _)
          · walk_at "vs"
            refine ite2 (fun c3 => ?_) (fun c3 => ?_)
            · have hk : k = "choose" := V.str.inj (of_decide_eq_true c3)
              subst hk
              walk_at "vs"
              refine ite2 (fun c2 => ?_) (fun c2 => ?_)
              · have c3 := len_of.mp (of_decide_eq_true c2)
                cases hr' with
                | nil => simp at c3
                | @cons v1 t1 vs1 ts1 hv1 hr1 =>
                  cases hr1 with
                  | nil => simp at c3
                  | @cons v2 t2 vs2 ts2 hv2 hr2 =>
                    cases hr2 with
                    | cons _ _ => simp at c3; omega
                    | nil =>
                      have hs1 := hsh.of t2 (by simp)
                      walk_at "vs"
                      intro H5 s5
                      have ee : (shapeT (.tup [.str "choose", t1, t2])).isSome = choiceT t2 := by rw [shape_cho]; cases choiceT t2 <;> rfl
                      rw [ee] at q
                      exact q _ s5
              · have c3 : ¬ (vs.length : Int) = 3 - 1 := fun z => c2 (decide_eq_true (len_of.mpr z))
                rw [shape_len2 (.inl rfl) (by omega)] at q
                exact q _ (Same.refl _)
            · have n1 : k ≠ "number" := fun z => c1 (decide_eq_true (congrArg V.str z))
              have n2 : k ≠ "read" := fun z => c2 (decide_eq_true (congrArg V.str z))
              have n3 : k ≠ "choose" := fun z => c3 (decide_eq_true (congrArg V.str z))
              walk_at "vs"
              by_cases hop : k = "plus" ∨ k = "minus" ∨ k = "times" ∨ k = "most"
              · have lk : wLook k = some (.int 2) := by
                  rcases hop with z | z | z | z <;> rw [z]
                  · exact w_plus
                  · exact w_minus
                  · exact w_times
                  · exact w_most
                refine itB_t (show (wLook k).isSome = true by rw [lk]; rfl) ?_
                walk_at "vs"
                rw [op_isSome hop (x := V.str k) hl] at q
                exact q _ (Same.refl _)
              · by_cases hpk : k = "pick"
                · subst hpk
                  have lk := w_pick
                  refine itB_t (show (wLook "pick").isSome = true by rw [lk]; rfl) ?_
                  walk_at "vs"
                  rw [pick_isSome (x := V.str "pick") hl] at q
                  exact q _ (Same.refl _)
                · have hno : k ≠ "number" ∧ k ≠ "read" ∧ k ≠ "choose" ∧ k ≠ "plus" ∧ k ≠ "minus" ∧ k ≠ "times" ∧ k ≠ "most" ∧ k ≠ "pick" :=
                    ⟨n1, n2, n3, fun z => hop (.inl z), fun z => hop (.inr (.inl z)), fun z => hop (.inr (.inr (.inl z))), fun z => hop (.inr (.inr (.inr z))), hpk⟩
                  refine itB_f (show (wLook k).isSome = false by rw [w_none hno]; rfl) ?_
                  rw [shape_other hno] at q
                  exact q _ (Same.refl _)
noncomputable abbrev s_recipes_within : Stmt := top 20
theorem sc_recipes_within : FnScope ["r"] ["r"] (defScope s_recipes_within) := ⟨rfl, rfl, rfl, by decide +kernel, rfl, by decide +kernel, by decide +kernel⟩
theorem gl_recipes_within_WITHIN : (defScope s_recipes_within).names.lookup ("WITHIN" : Str) = some NameKind.globalImplicit := by decide +kernel
theorem db_recipes_within_WITHIN : (("WITHIN" : Str) == ("__debug__" : Str)) = false := by decide +kernel
theorem vo_recipes_within_r : VarOk (defScope s_recipes_within) "r" := by decide +kernel
theorem ok_recipes_within {f aW : Addr} {fd : FuncData} (T_recipes_within : FnT K mg "recipes_within" s_recipes_within ["r"] f fd) (T : Blt mg) (mW : mg "WITHIN" = some (.ref aW)) (TW : Tab P w K aW withinD) :
    FnOk P w K mg base CX0 1 f fd ["r"] (spWithin K) := by
  refine T_recipes_within.F.okQ sc_recipes_within (fun vs H Q E h => ?_) (fun cdv A outer s H vs Q E hr h => ?_)
  · obtain ⟨v, t, ks, H0, rfl, _⟩ := h
    rfl
  obtain ⟨v, t, ks, H0, rfl, ht, s0, hks, q⟩ := h
  refine ⟨_, (qss_one (qs_ret (qe_slice qsl_tup (qe_var 0 vo_recipes_within_r) (qo_some qe_int) (qo_some (qe_op qop_add qe_int (qe_ix (qix_tab TW) (qe_glob (v := .ref aW) gl_recipes_within_WITHIN mW rfl db_recipes_within_WITHIN) (qe_ix qix_tup (qe_var 0 vo_recipes_within_r) qe_int))))))), ?_⟩
  rcases shape_inv hks with ⟨x, rfl, rfl⟩ | ⟨x, rfl, rfl⟩ | ⟨x, y, rfl, rfl⟩ | ⟨k, x, y, hop, rfl, rfl⟩ | ⟨x, y, z, rfl, rfl⟩
  · cases ht with
    | @tup a ws ts e h =>
      cases h with
      | cons hx h => cases hx; cases h with
        | cons h1 h => cases h
                       have e' := s0 _ _ e
                       have lk := w_number
                       walk_at "vs"
                       intro p hp
                       exact q p [] _ (same_new _ hp) upd_same .nil
  · cases ht with
    | @tup a ws ts e h =>
      cases h with
      | cons hx h => cases hx; cases h with
        | cons h1 h => cases h
                       have e' := s0 _ _ e
                       have lk := w_read
                       walk_at "vs"
                       intro p hp
                       exact q p [] _ (same_new _ hp) upd_same .nil
  · cases ht with
    | @tup a ws ts e h =>
      cases h with
      | cons hx h => cases hx; cases h with
        | cons h1 h => cases h with
          | cons h2 h => cases h
                         have e' := s0 _ _ e
                         have lk := w_choose
                         walk_at "vs"
                         intro p hp
                         exact q p [_] _ (same_new _ hp) upd_same (.cons h1 .nil)
  · have lk : wLook k = some (.int 2) := by
      rcases hop with z | z | z | z <;> rw [z]
      · exact w_plus
      · exact w_minus
      · exact w_times
      · exact w_most
    cases ht with
    | @tup a ws ts e h =>
      cases h with
      | cons hx h => cases hx; cases h with
        | cons h1 h => cases h with
          | cons h2 h => cases h
                         have e' := s0 _ _ e
                         walk_at "vs"
                         intro p hp
                         exact q p [_, _] _ (same_new _ hp) upd_same (.cons h1 (.cons h2 .nil))
  · cases ht with
    | @tup a ws ts e h =>
      cases h with
      | cons hx h => cases hx; cases h with
        | cons h1 h => cases h with
          | cons h2 h => cases h with
            | cons h3 h => cases h
                           have e' := s0 _ _ e
                           have lk := w_pick
                           walk_at "vs"
                           intro p hp
                           exact q p [_, _, _] _ (same_new _ hp) upd_same (.cons h1 (.cons h2 (.cons h3 .nil)))
end

section
variable {P : Program} {w : World} {K : PySem.W.Frag} {mg : Str → Option Value} {base : Heap}
noncomputable abbrev s_is_recipe : Stmt := top 21
theorem sc_is_recipe : FnScope ["thing", "todo", "seen", "step", "depth", "part"] ["thing"] (defScope s_is_recipe) := ⟨rfl, rfl, rfl, by decide +kernel, rfl, by decide +kernel, by decide +kernel⟩
theorem lo_is_recipe_todo : Loc (defScope s_is_recipe) "todo" := by decide +kernel
theorem vo_is_recipe_thing : VarOk (defScope s_is_recipe) "thing" := by decide +kernel
theorem lo_is_recipe_seen : Loc (defScope s_is_recipe) "seen" := by decide +kernel
theorem vo_is_recipe_todo : VarOk (defScope s_is_recipe) "todo" := by decide +kernel
theorem lo_is_recipe_step : Loc (defScope s_is_recipe) "step" := by decide +kernel
theorem vo_is_recipe_seen : VarOk (defScope s_is_recipe) "seen" := by decide +kernel
theorem lo_is_recipe_depth : Loc (defScope s_is_recipe) "depth" := by decide +kernel
theorem vo_is_recipe_step : VarOk (defScope s_is_recipe) "step" := by decide +kernel
theorem gl_is_recipe_has_shape : (defScope s_is_recipe).names.lookup ("has_shape" : Str) = some NameKind.globalImplicit := by decide +kernel
theorem db_is_recipe_has_shape : (("has_shape" : Str) == ("__debug__" : Str)) = false := by decide +kernel
theorem vo_is_recipe_depth : VarOk (defScope s_is_recipe) "depth" := by decide +kernel
theorem gl_is_recipe_MOST_DEPTH : (defScope s_is_recipe).names.lookup ("MOST_DEPTH" : Str) = some NameKind.globalImplicit := by decide +kernel
theorem db_is_recipe_MOST_DEPTH : (("MOST_DEPTH" : Str) == ("__debug__" : Str)) = false := by decide +kernel
theorem gl_is_recipe_MOST_RECIPES : (defScope s_is_recipe).names.lookup ("MOST_RECIPES" : Str) = some NameKind.globalImplicit := by decide +kernel
theorem db_is_recipe_MOST_RECIPES : (("MOST_RECIPES" : Str) == ("__debug__" : Str)) = false := by decide +kernel
theorem gl_is_recipe_recipes_within : (defScope s_is_recipe).names.lookup ("recipes_within" : Str) = some NameKind.globalImplicit := by decide +kernel
theorem db_is_recipe_recipes_within : (("recipes_within" : Str) == ("__debug__" : Str)) = false := by decide +kernel
theorem lo_is_recipe_part : Loc (defScope s_is_recipe) "part" := by decide +kernel
theorem vo_is_recipe_part : VarOk (defScope s_is_recipe) "part" := by decide +kernel
theorem ok_is_recipe {f g1 g2 : Addr} {fd gd1 gd2 : FuncData} {tR tD : Tok} (T_is_recipe : FnT K mg "is_recipe" s_is_recipe ["thing"] f fd)
    (T_has_shape : FnT K mg "has_shape" s_has_shape ["thing"] g1 gd1) (G_has_shape : FnOk P w K mg base CX0 3 g1 gd1 ["thing"] (spShape K))
    (T_recipes_within : FnT K mg "recipes_within" s_recipes_within ["r"] g2 gd2) (G_recipes_within : FnOk P w K mg base CX0 1 g2 gd2 ["r"] (spWithin K))
    (T : Blt mg) (mMR : mg "MOST_RECIPES" = some (.int 100 tR)) (mMD : mg "MOST_DEPTH" = some (.int 8 tD)) : FnOk P w K mg base CX0 4 f fd ["thing"] (spIsRec K) := by
  refine T_is_recipe.F.okQ sc_is_recipe (fun vs H Q E h => ?_) (fun cdv A outer s H vs Q E hr h => ?_)
  · obtain ⟨v, t, rfl, _⟩ := h
    rfl
  obtain ⟨v, t, rfl, ht, hsh, q⟩ := h
  refine ⟨_, (qss_cons (qs_set (i := 1) sc_is_recipe.nd rfl lo_is_recipe_todo (qe_lst (qa_T (qe_tup (qa_N (qe_var 0 vo_is_recipe_thing) (qa_C qe_int qa_nil))) qa_nil)))
    (qss_cons (qs_set (i := 2) sc_is_recipe.nd rfl lo_is_recipe_seen qe_int)
    (qss_cons (qs_while PassesOwn.never (qt_truth (qe_var 1 vo_is_recipe_todo)) (qss_cons (qs_set (i := 3) sc_is_recipe.nd rfl lo_is_recipe_step (qe_bm0 PySem.F.plainAttrs_list PySem.F.slot_list_pop PySem.F.type_list_pop qmt_pop (qe_var 1 vo_is_recipe_todo)))
    (qss_cons (qs_set (i := 2) sc_is_recipe.nd rfl lo_is_recipe_seen (qe_op qop_add (qe_var 2 vo_is_recipe_seen) qe_int))
    (qss_cons (qs_set (i := 4) sc_is_recipe.nd rfl lo_is_recipe_depth (qe_ix qix_tup (qe_var 3 vo_is_recipe_step) qe_int))
    (qss_cons (qs_if (qt_w (qw_or (qt_cmp qop_gt (qe_var 2 vo_is_recipe_seen) (qe_glob (v := .int 100) gl_is_recipe_MOST_RECIPES mMR ⟨_, rfl⟩ db_is_recipe_MOST_RECIPES) (nomarkQ _)) (qw_or (qt_cmp qop_gt (qe_var 4 vo_is_recipe_depth) (qe_glob (v := .int 8) gl_is_recipe_MOST_DEPTH mMD ⟨_, rfl⟩ db_is_recipe_MOST_DEPTH) (nomarkQ _)) (qw_or1 (qt_not (qt_val (qe_call (G_has_shape.mono (by omega)) hr gl_is_recipe_has_shape T_has_shape.m T_has_shape.F.kp T_has_shape.b .nil pass0 (qa_S (qe_ix qix_tup (qe_var 3 vo_is_recipe_step) qe_int) qa_nil) db_is_recipe_has_shape))))))) (qss_one (qs_ret qe_bl)) qss_nil)
    (qss_one (qs_for PassesOwn.never rfl (qi_tup (qe_call (G_recipes_within.mono (by omega)) hr gl_is_recipe_recipes_within T_recipes_within.m T_recipes_within.F.kp T_recipes_within.b .nil pass0 (qa_S (qe_ix qix_tup (qe_var 3 vo_is_recipe_step) qe_int) qa_nil) db_is_recipe_recipes_within)) (qg_name (i := 5) sc_is_recipe.nd rfl lo_is_recipe_part) (qss_one (qs_expr (qe_bm PySem.F.plainAttrs_list PySem.F.slot_list_append PySem.F.type_list_append qmt_append (qe_var 1 vo_is_recipe_todo) (qa_T (qe_tup (qa_N (qe_var 5 vo_is_recipe_part) (qa_B (qe_op qop_add (qe_var 4 vo_is_recipe_depth) qe_int) qa_nil))) qa_nil)))))))))))
    (qss_one (qs_ret qe_bl))))), ?_⟩
  walk_at "vs"
  intro p1 hp1
  walk_at "vs"
  intro td htd
  walk_at "vs"
  have htH : H td = none := (same_new (.tup [v, V.int 1]) hp1).free htd
  refine ⟨fun m σ H' => ∃ (seen : Nat) (js : List Job) (t3 t4 t5 : Option V), m = 101 - seen ∧ σ = [some v, some (.ref td), some (.int seen), t3, t4, t5] ∧ Same H H' ∧ H' td = some (.lst (js.map fun j => V.ref j.a)) ∧ (∀ j ∈ js, JOk K H H' j) ∧
    seen ≤ 100 ∧ js.length ≤ 1 + 3 * seen ∧ (szN 8 t ≤ 100 ↔ seen + sumJ js ≤ 100), ⟨101, 0, [⟨p1, v, t, 1⟩], none, none, none, rfl, rfl, (same_new _ hp1).trans (same_new _ htd), upd_same, ?_, by decide, Nat.le_refl 1, ?_⟩, ?_⟩
  · intro j hj
    have : j = ⟨p1, v, t, 1⟩ := by simpa using hj
    subst this
    exact ⟨same_new _ htd _ _ upd_same, ht, hsh, Nat.le_refl 1, Nat.le_of_ble_eq_true rfl⟩
  · simp [sumJ]
  rintro m σ H1 ⟨seen, js, t3, t4, t5, rfl, rfl, s1, e1, hjs, h100, hlen, hiff⟩
  walk_at "vs"
  rcases List.eq_nil_or_concat js with rfl | ⟨js0, j, rfl⟩
  · walk_at "vs"
    have hd : decide (szN 8 t ≤ 100) = true := decide_eq_true (hiff.mpr (by simpa [sumJ] using h100))
    rw [hd] at q
    exact q _ s1
  · simp only [List.concat_eq_append] at e1 hjs hlen hiff ⊢
    refine itB_t (by simp) ?_
    rw [List.map_append] at e1
    obtain ⟨je, ji, jsh, jlo, jhi⟩ := hjs j (by simp)
    have hj0 : ∀ j' ∈ js0, JOk K H H1 j' := fun j' hj' => hjs j' (List.mem_append_left _ hj')
    have hl0 : js0.length + 1 ≤ 1 + 3 * seen := by simpa using hlen
    rw [sumJ_snoc] at hiff
    have hpos := szN_pos (9 - j.d) j.t
    refine ⟨fun σ' H' => ∃ (js : List Job) (t3 t4 t5 : Option V), σ' = [some v, some (.ref td), some (.int ((seen + 1 : Nat) : Int)), t3, t4, t5] ∧ Same H H' ∧ H' td = some (.lst (js.map fun j => V.ref j.a)) ∧ (∀ j ∈ js, JOk K H H' j) ∧
      seen + 1 ≤ 100 ∧ js.length ≤ 1 + 3 * (seen + 1) ∧ (szN 8 t ≤ 100 ↔ (seen + 1) + sumJ js ≤ 100), ?_, ?_⟩
    · rintro σ' H' ⟨js, t3, t4, t5, rfl, a1, a2, a3, a4, a5, a6⟩
      exact ⟨101 - (seen + 1), by omega, seen + 1, js, t3, t4, t5, rfl, rfl, a1, a2, a3, a4, a5, a6⟩
    · have e1' : H1 td = some (.lst ((js0.map fun j => V.ref j.a) ++ [V.ref j.a])) := e1
      have hlast : ((js0.map fun j => V.ref j.a) ++ [V.ref j.a])[((js0.map fun j => V.ref j.a) ++ [V.ref j.a]).length - 1]? = some (V.ref j.a) := by simp
      have hne : j.a ≠ td := ne_of je e1 (by intro z; cases z)
      walk_at "vs"
      rw [List.dropLast_concat]
      have tu : Tups H1 (upd H1 td (.lst (js0.map fun j => V.ref j.a))) := tups_set _ e1
      have je2 := tu _ _ je
      have s2 : Same H (upd H1 td (.lst (js0.map fun j => V.ref j.a))) := same_updN _ htH s1
      walk_at "vs"
      refine ite2 (fun c1 => ?_) (fun c1 => ?_)
      · have c1' : (100 : Int) < (seen : Int) + 1 := by simpa using c1
        walk_at "vs"
        have hd : decide (szN 8 t ≤ 100) = false := decide_eq_false fun z => by have := hiff.mp z; omega
        rw [hd] at q
        exact q _ s2
      · have c1' : ¬ (100 : Int) < (seen : Int) + 1 := by simpa using c1
        walk_at "vs"
        refine ite2 (fun c2 => ?_) (fun c2 => ?_)
        · have c2' : (8 : Int) < (j.d : Int) := by simpa using c2
          walk_at "vs"
          have hd : decide (szN 8 t ≤ 100) = false := decide_eq_false fun z => by
            have := hiff.mp z
            have e9 : 9 - j.d = 0 := by omega
            rw [e9] at this
            have : szN 0 j.t = 1000 := rfl
            omega
          rw [hd] at q
          exact q _ s2
        · have c2' : ¬ (8 : Int) < (j.d : Int) := by simpa using c2
          have ji2 := ji.same s2
          walk_at "vs"
          intro H5 s5
          have je5 := s5 _ _ je2
          have etd5 := s5 _ _ (upd_same (H := H1) (a := td) (o := .lst (js0.map fun j => V.ref j.a)))
          have s25 := s2.trans s5
          clear ji2
          cases hsp : shapeT j.t with
          | none =>
            walk_at "vs"
            have hd : decide (szN 8 t ≤ 100) = false := decide_eq_false fun z => by
              have := hiff.mp z
              have := szN_none (d := 9 - j.d) hsp
              omega
            rw [hd] at q
            exact q _ s25
          | some ks =>
            have hk3 := kids_le hsp
            have hks := kids_short hsp jsh
            walk_at "vs"
            intro a ws H6 s6 e6 h6
            have hwl := h6.length
            have etd6 := s6 _ _ etd5
            walk_at "vs"
            refine for_tup (xs := ws) (fun i σ' Hc => Wr (∃ (js' : List Job) (t5 : Option V), σ' = [some v, some (.ref td), some (.int ((seen : Int) + 1)), some (.ref j.a), some (.int j.d), t5] ∧ Same H Hc ∧ Hc td = some (.lst (js'.map fun j => V.ref j.a)) ∧ (∀ j ∈ js', JOk K H Hc j) ∧
              js'.length = js0.length + i ∧ sumJ js' = sumJ js0 + ((ks.take i).map (szN (8 - j.d))).sum ∧ Hc a = some (.tup ws))) ?_ ?_ ?_ ?_
            · exact .mk ⟨js0, _, rfl, s25.trans s6, etd6, fun j' hj' => (hj0 j' hj').tups (tu.trans (Same.tups (s5.trans s6))), rfl, by simp, e6⟩
            · intro i σ' Hc _ hP
              obtain ⟨_, _, _, _, _, _, _, _, ea⟩ := hP.h
              exact SqT.of ea
            · intro i x σ' Hc hx hP
              obtain ⟨js', t5', rfl, sc, etd, hj', hl', hsum, ea⟩ := hP.h
              obtain ⟨kt, hk1, hk2⟩ := h6.get hx
              have hi : i < ws.length := (List.getElem?_eq_some_iff.mp hx).1
              have hz : (js'.map fun j => V.ref j.a).length < sizeLine := by rw [List.length_map]; exact small1000 (by omega)
              walk_at "vs"
              intro p hp
              have hpn : td ≠ p := ne_of_none etd hp
              have sp := same_new (.tup [x, V.int ((j.d : Int) + 1)]) hp
              have etdp := sp _ _ etd
              walk_at "vs"
              have tu2 : Tups Hc _ := (Same.tups sp).trans (tups_set (.lst ((js'.map fun j => V.ref j.a) ++ [V.ref p])) etdp)
              refine .mk ⟨js' ++ [⟨p, x, kt, j.d + 1⟩], _, rfl, same_updN _ htH (sc.trans sp), ?_, ?_, ?_, ?_, ?_⟩
              · rw [upd_same, List.map_append]; rfl
              · intro j' hj2
                rcases List.mem_append.mp hj2 with z | z
                · exact (hj' j' z).tups tu2
                · have : j' = ⟨p, x, kt, j.d + 1⟩ := by simpa using z
                  subst this
                  refine ⟨?_, hk2, hks kt (List.mem_of_getElem? hk1), by show 1 ≤ j.d + 1; omega, by show j.d + 1 ≤ 9; omega⟩
                  rw [upd_ne (Ne.symm hpn)]
                  exact upd_same
              · rw [List.length_append, hl']; rfl
              · rw [sumJ_snoc, hsum, List.take_succ, hk1, List.map_append, List.sum_append]
                have : 9 - (j.d + 1) = 8 - j.d := by omega
                show _ + szN (9 - (j.d + 1)) kt = _
                rw [this]
                simp
                omega
              · exact tu2 _ _ ea
            · intro σ' Hc hP
              obtain ⟨js', t5', rfl, sc, etd, hj', hl', hsum, ea⟩ := hP.h
              rw [hwl, List.take_length] at hsum
              refine ⟨js', _, _, _, rfl, sc, etd, hj', by omega, by omega, ?_⟩
              rw [hiff, szN_some (by omega) hsp, hsum]
              omega
end

section
variable {P : Program} {w : World} {K : PySem.W.Frag} {mg : Str → Option Value} {base : Heap}
noncomputable abbrev s_rows_of : Stmt := top 24
theorem sc_rows_of : FnScope ["reads"] ["reads"] (defScope s_rows_of) := ⟨rfl, rfl, rfl, by decide +kernel, rfl, by decide +kernel, by decide +kernel⟩
theorem gl_rows_of_range : (defScope s_rows_of).names.lookup ("range" : Str) = some NameKind.globalImplicit := by decide +kernel
theorem gl_rows_of_LONGEST_ROW : (defScope s_rows_of).names.lookup ("LONGEST_ROW" : Str) = some NameKind.globalImplicit := by decide +kernel
theorem db_rows_of_LONGEST_ROW : (("LONGEST_ROW" : Str) == ("__debug__" : Str)) = false := by decide +kernel
theorem gl_rows_of_len : (defScope s_rows_of).names.lookup ("len" : Str) = some NameKind.globalImplicit := by decide +kernel
theorem vo_rows_of_reads : VarOk (defScope s_rows_of) "reads" := by decide +kernel
theorem nn_rows_of_len : ("len" : Str) ≠ "__name__" := by decide +kernel
theorem db_rows_of_len : (("len" : Str) == ("__debug__" : Str)) = false := by decide +kernel
theorem ok_rows_of {f : Addr} {fd : FuncData} {tL : Tok} (T_rows_of : FnT K mg "rows_of" s_rows_of ["reads"] f fd) (T : Blt mg) (mLR : mg "LONGEST_ROW" = some (.int 3 tL)) : FnOk P w K mg base CX0 1 f fd ["reads"] spRows := by
  refine T_rows_of.F.okQ sc_rows_of (fun vs H Q E h => ?_) (fun cdv A outer s H vs Q E hr h => ?_)
  · obtain ⟨p, as, ps, rfl, _⟩ := h
    rfl
  obtain ⟨p, as, ps, rfl, e, hR, hn, hok, q⟩ := h
  refine ⟨_, (qss_one (qs_ret (qe_comp rfl (n := 1) (fr := [0]) (N := ["place", "reads"]) (cs_mk (scX := defScope s_rows_of) (NX := ["reads"]) rfl rfl (by decide +kernel)) (qi_range3 gl_rows_of_range T.b_range (qa_C qe_int (qa_F (qe_callB qc_len_seq gl_rows_of_len T.b_len bt_len (qa_N (qe_var 0 vo_rows_of_reads) qa_nil) nn_rows_of_len db_rows_of_len) (qa_N (qe_glob (v := .int 3) gl_rows_of_LONGEST_ROW mLR ⟨_, rfl⟩ db_rows_of_LONGEST_ROW) qa_nil)))) (fun _ _ _ _ _ => (qgx (i := 0) (show List.Nodup (α := Str) ["place", "reads"] by decide) (locC (by decide +kernel)))) (fun _ _ _ _ _ => qi_nil) (fun _ _ _ _ _ => (qe_slice (qsl_listK (K := K) rfl) (qe_var 1 (VarC.ok (by decide +kernel))) (qo_some (qe_var 0 (VarC.ok (by decide +kernel)))) (qo_some (qe_op qop_add (qe_var 0 (VarC.ok (by decide +kernel))) (qe_glob (v := .int 3) (glC (by decide +kernel)) mLR ⟨_, rfl⟩ db_rows_of_LONGEST_ROW)))))))), ?_⟩
  have hl := hR.length
  have hlm : (as.map V.ref).length = as.length := List.length_map _
  walk_at "vs"
  intro D hD
  have hrn : rngN 0 (((as.map V.ref).length : Nat) : Int) 3 = (ps.length + 2) / 3 := by rw [hlm, hl]; exact rng3 _
  refine comp_range3 (fun i σ' H' => (∃ t, σ' = t :: [some (.ref p)]) ∧ Same H H' ∧ ∃ qs : List Addr, H' D = some (.lst (qs.map V.ref)) ∧ qs.length = i ∧ ∀ a ∈ qs, a ≠ D ∧ RowAt H' a 3) ?_ ?_ ?_
  · exact ⟨⟨none, rfl⟩, same_new _ hD, [], upd_same, rfl, by simp⟩
  · intro i σ' H' hi hP
    obtain ⟨⟨t, rfl⟩, hs, qs, eD, el, hall⟩ := hP
    rw [hrn] at hi
    have ep := hs _ _ e
    walk_at "vs"
    intro p5 hp5
    rw [three_cut (as := as) (i := i) (by omega)]
    have s5 := same_new (.lst (((as.drop (3 * i)).take 3).map V.ref)) hp5
    have eD5 := s5 _ _ eD
    have hz : (qs.map V.ref).length < sizeLine := by rw [List.length_map]; exact small1000 (by omega)
    refine ⟨_, eD5, hz, ⟨_, rfl⟩, same_updN _ hD (hs.trans s5), qs ++ [p5], ?_, by rw [List.length_append, el]; rfl, ?_⟩
    · rw [upd_same, List.map_append]; rfl
    · have tp : Tups (upd H' p5 (.lst (((as.drop (3 * i)).take 3).map V.ref))) (upd (upd H' p5 (.lst (((as.drop (3 * i)).take 3).map V.ref))) D (.lst (qs.map V.ref ++ [.ref p5]))) := tups_set _ eD5
      have hne : p5 ≠ D := by
        intro z; rw [z] at hp5; rw [eD] at hp5; cases hp5
      have keep : ∀ a, a ≠ D → RowAt (upd H' p5 (.lst (((as.drop (3 * i)).take 3).map V.ref))) a 3 → RowAt (upd (upd H' p5 (.lst (((as.drop (3 * i)).take 3).map V.ref))) D (.lst (qs.map V.ref ++ [.ref p5]))) a 3 := fun a ha ⟨xs, zs, x1, x2, x3⟩ =>
        ⟨xs, zs, (upd_ne ha).trans x1, x2.tups tp, x3⟩
      intro a ha
      rcases List.mem_append.mp ha with z | z
      · exact ⟨(hall a z).1, keep a (hall a z).1 ((hall a z).2.same s5)⟩
      · have z' : a = p5 := by simpa using z
        subst z'
        refine ⟨hne, keep a hne ⟨(as.drop (3 * i)).take 3, (ps.drop (3 * i)).take 3, upd_same, ((hR.drop (3 * i)).take 3).same (hs.trans s5), ?_, ?_, fun x hx => hok x (List.mem_of_mem_drop (List.mem_of_mem_take hx))⟩⟩
        · rw [List.length_take, List.length_drop]; omega
        · rw [List.length_take]; omega
  · intro σ' H' hP
    obtain ⟨_, hs, qs, eD, el, hall⟩ := hP
    rw [hrn] at el
    exact q D qs H' hs eD el fun a ha => (hall a ha).2
noncomputable abbrev s_reading : Stmt := top 25
theorem sc_reading : FnScope ["row", "r", "read"] ["row"] (defScope s_reading) := ⟨rfl, rfl, rfl, by decide +kernel, rfl, by decide +kernel, by decide +kernel⟩
theorem lo_reading_r : Loc (defScope s_reading) "r" := by decide +kernel
theorem vo_reading_row : VarOk (defScope s_reading) "row" := by decide +kernel
theorem lo_reading_read : Loc (defScope s_reading) "read" := by decide +kernel
theorem vo_reading_read : VarOk (defScope s_reading) "read" := by decide +kernel
theorem vo_reading_r : VarOk (defScope s_reading) "r" := by decide +kernel
theorem ok_reading {f : Addr} {fd : FuncData} (T_reading : FnT K mg "reading" s_reading ["row"] f fd) (T : Blt mg) : FnOk P w K mg base CX0 1 f fd ["row"] spReading := by
  refine T_reading.F.okQ sc_reading (fun vs H Q E h => ?_) (fun cdv A outer s H vs Q E hr h => ?_)
  · obtain ⟨p, rfl, _⟩ := h
    rfl
  obtain ⟨p, rfl, ⟨as, ps, e, hR, h1, h3, hok⟩, q⟩ := h
  refine ⟨_, (qss_cons (qs_set (i := 1) sc_reading.nd rfl lo_reading_r (qe_tup (qa_C qe_str (qa_S (qe_ix qix_tup (qe_ix qix_list (qe_var 0 vo_reading_row) qe_int) qe_int) qa_nil))))
    (qss_cons (qs_for PassesOwn.never rfl (qi_list (qe_slice qsl_list (qe_var 0 vo_reading_row) (qo_some qe_int) qo_none)) (qg_name (i := 2) sc_reading.nd rfl lo_reading_read) (qss_one (qs_set (i := 1) sc_reading.nd rfl lo_reading_r (qe_tup (qa_C qe_str (qa_N (qe_var 1 vo_reading_r) (qa_T (qe_tup (qa_S (qe_ix qix_tup (qe_var 2 vo_reading_read) qe_int) qa_nil)) qa_nil)))))))
    (qss_one (qs_ret (qe_var 1 vo_reading_r))))), ?_⟩
  have hl := hR.length
  cases hR with
  | nil => simp at h1
  | @cons a0 p0 as ps ha0 hR =>
  have hp0 := hok p0 (by simp)
  have at0 : atI ((a0 :: as).map V.ref) 0 = some (.ref a0) := atI_nat (j := 0) rfl
  have at00 : atI (rdV p0) 0 = some (.str p0.1) := atI_nat (j := 0) rfl
  walk_at "vs"
  intro p1 hp1
  have s1 := same_new (.tup [V.str "read", V.str p0.1]) hp1
  have e1 := s1 _ _ e
  have R1 : IsR (upd H p1 (.tup [V.str "read", V.str p0.1])) p1 (.rd p0.1) := .rd upd_same
  generalize upd H p1 (.tup [V.str "read", V.str p0.1]) = H1 at *
  walk_at "vs"
  intro p2 hp2
  rw [show (1 : Int) = ((1 : Nat) : Int) from rfl, cut_from', show ((a0 :: as).map V.ref).drop 1 = as.map V.ref from rfl]
  have s2 := s1.trans (same_new (.lst (as.map V.ref)) hp2)
  have e2 : upd H1 p2 (.lst (as.map V.ref)) p2 = some (.lst (as.map V.ref)) := upd_same
  have R2 := R1.same (same_new (.lst (as.map V.ref)) hp2)
  generalize upd H1 p2 (.lst (as.map V.ref)) = H2 at *
  walk_at "vs"
  refine for_list (xs := as.map V.ref) (fun i σ H' => ∃ a r t, σ = [some (.ref p), some (.ref a), t] ∧ Same H2 H' ∧ IsR H' a r ∧ r.Good ∧ r.depth ≤ i + 1 ∧ r.nodes ≤ i + 1) ?_ ?_ ?_ ?_
  · exact ⟨p1, _, none, rfl, Same.refl _, R2, hp0.1, Nat.le_refl _, Nat.le_refl _⟩
  · rintro i σ H' _ ⟨a, r, t, rfl, hs, _⟩
    exact SqL.of (hs _ _ e2)
  · rintro i x σ H' hx ⟨a, r, t, rfl, hs, hr1, hg, hd, hno⟩
    obtain ⟨b, hb, rfl⟩ := ref_at hx
    obtain ⟨pb, hpb, eb⟩ := hR.get i b hb
    have hpo := hok pb (by simp [List.mem_of_getElem? hpb])
    have eb' := hs _ _ (s2 _ _ eb)
    have atb : atI (rdV pb) 0 = some (.str pb.1) := atI_nat (j := 0) rfl
    walk_at "vs"
    intro p3 hp3
    walk_at "vs"
    intro p4 hp4
    have s3 := (same_new (.tup [V.str pb.1]) hp3).trans (same_new (.tup [V.str "choose", V.ref a, V.ref p3]) hp4)
    refine ⟨p4, .cho r [pb.1], _, rfl, hs.trans s3, .cho upd_same (hr1.same s3) ((upd_ne (ne_of_none upd_same hp4)).trans upd_same), ⟨hg, by simp, by simp, ?_⟩, ?_, ?_⟩
    · intro x hx
      have : x = pb.1 := by simpa using hx
      rw [this]; exact hpo.1
    · show r.depth + 1 ≤ _; omega
    · show 1 + r.nodes ≤ _; omega
  · rintro σ H' ⟨a, r, t, rfl, hs, hr1, hg, hd, hno⟩
    have hla : (as.map V.ref).length + 1 ≤ 3 := by rw [List.length_map]; simp at hl h3; omega
    walk_at "vs"
    exact q a r H' (s2.trans hs) hr1 hg (by omega) (by omega)
noncomputable abbrev s_summed : Stmt := top 26
theorem sc_summed : FnScope ["parts", "half"] ["parts"] (defScope s_summed) := ⟨rfl, rfl, rfl, by decide +kernel, rfl, by decide +kernel, by decide +kernel⟩
theorem gl_summed_len : (defScope s_summed).names.lookup ("len" : Str) = some NameKind.globalImplicit := by decide +kernel
theorem vo_summed_parts : VarOk (defScope s_summed) "parts" := by decide +kernel
theorem nn_summed_len : ("len" : Str) ≠ "__name__" := by decide +kernel
theorem db_summed_len : (("len" : Str) == ("__debug__" : Str)) = false := by decide +kernel
theorem lo_summed_half : Loc (defScope s_summed) "half" := by decide +kernel
theorem gl_summed_summed : (defScope s_summed).names.lookup ("summed" : Str) = some NameKind.globalImplicit := by decide +kernel
theorem vo_summed_half : VarOk (defScope s_summed) "half" := by decide +kernel
theorem db_summed_summed : (("summed" : Str) == ("__debug__" : Str)) = false := by decide +kernel
noncomputable def spS : Nat → Sp
  | 0 => fun _ _ _ _ => False
  | k + 1 => spSummed k
theorem step_summed {k : Nat} {f : Addr} {fd : FuncData} (T_summed : FnT K mg "summed" s_summed ["parts"] f fd) (G_summed : FnOk P w K mg base CX0 k f fd ["parts"] (spS k)) (T : Blt mg) : FnOk P w K mg base CX0 (k + 1) f fd ["parts"] (spSummed k) := by
  refine T_summed.F.okQ sc_summed (fun vs H Q E h => ?_) (fun cdv A outer s H vs Q E hr h => ?_)
  · obtain ⟨p, as, d, n, rfl, _⟩ := h
    rfl
  obtain ⟨p, as, d, n, rfl, e, hP, h1, hk, h6, q⟩ := h
  refine ⟨_, (qss_cons (qs_if (qt_cmp qop_eq (qe_callB qc_len_seq gl_summed_len T.b_len bt_len (qa_N (qe_var 0 vo_summed_parts) qa_nil) nn_summed_len db_summed_len) qe_int (nomarkQ _)) (qss_one (qs_ret (qe_ix qix_list (qe_var 0 vo_summed_parts) qe_int))) qss_nil)
    (qss_cons (qs_set (i := 1) sc_summed.nd rfl lo_summed_half (qe_op qop_fdiv (qe_callB qc_len_seq gl_summed_len T.b_len bt_len (qa_N (qe_var 0 vo_summed_parts) qa_nil) nn_summed_len db_summed_len) qe_int))
    (qss_one (qs_ret (qe_tup (qa_C qe_str (qa_F (qe_call (G_summed.mono (by omega)) hr gl_summed_summed T_summed.m T_summed.F.kp T_summed.b .nil pass0 (qa_S (qe_slice qsl_list (qe_var 0 vo_summed_parts) qo_none (qo_some (qe_var 1 vo_summed_half))) qa_nil) db_summed_summed) (qa_F (qe_call (G_summed.mono (by omega)) hr gl_summed_summed T_summed.m T_summed.F.kp T_summed.b .nil pass0 (qa_S (qe_slice qsl_list (qe_var 0 vo_summed_parts) (qo_some (qe_var 1 vo_summed_half)) qo_none) qa_nil) db_summed_summed) qa_nil)))))))), ?_⟩
  have hlm : (as.map V.ref).length = as.length := List.length_map _
  have h64 : (2 : Nat) ^ k ≤ 64 := Nat.pow_le_pow_right (n := 2) (by decide) h6
  walk_at "vs"
  refine ite2 (fun c1 => ?_) (fun c1 => ?_)
  · have c1' : (as.length : Int) = 1 := by simpa using c1
    have c1' : as.length = 1 := by omega
    match as, c1' with
    | [a], _ =>
      obtain ⟨r, hr1, hg, hd, hno⟩ := hP a (by simp)
      have at0 : atI ([a].map V.ref) 0 = some (.ref a) := atI_nat (j := 0) rfl
      walk_at "vs"
      exact q a r H (Same.refl _) hr1 hg (by omega) (by simp; omega)
  · have c1' : ¬ (as.length : Int) = 1 := by simpa using c1
    have c1' : ¬ as.length = 1 := by omega
    cases k with
    | zero => omega
    | succ k =>
    have hk2 : as.length ≤ 2 * 2 ^ k := by rw [Nat.pow_succ] at hk; omega
    walk_at "vs"
    have hhalf : ((as.map V.ref).length : Int) / 2 = ((as.length / 2 : Nat) : Int) := by rw [hlm]; omega
    rw [hhalf]
    intro p1 hp1
    rw [cut_to, ← List.map_take]
    have s1 := same_new (.lst ((as.take (as.length / 2)).map V.ref)) hp1
    have e1 : upd H p1 (.lst ((as.take (as.length / 2)).map V.ref)) p1 = some (.lst ((as.take (as.length / 2)).map V.ref)) := upd_same
    generalize upd H p1 (.lst ((as.take (as.length / 2)).map V.ref)) = H1 at *
    refine ⟨p1, as.take (as.length / 2), d, n, rfl, e1, fun a ha => hP.same s1 a (List.mem_of_mem_take ha), by rw [List.length_take]; omega, by rw [List.length_take]; omega, by omega, ?_⟩
    intro a r H2 s2 R2 g2 d2 n2
    have ep2 := s2 _ _ (s1 _ _ e)
    walk_at "vs"
    intro p3 hp3
    rw [hhalf, cut_from', ← List.map_drop]
    have s3 := same_new (.lst ((as.drop (as.length / 2)).map V.ref)) hp3
    have e3 : upd H2 p3 (.lst ((as.drop (as.length / 2)).map V.ref)) p3 = some (.lst ((as.drop (as.length / 2)).map V.ref)) := upd_same
    have R3 := R2.same s3
    generalize upd H2 p3 (.lst ((as.drop (as.length / 2)).map V.ref)) = H3 at *
    refine ⟨p3, as.drop (as.length / 2), d, n, rfl, e3, fun a ha => hP.same (s1.trans (s2.trans s3)) a (List.mem_of_mem_drop ha), by rw [List.length_drop]; omega, by rw [List.length_drop]; omega, by omega, ?_⟩
    intro b t H4 s4 R4 g4 d4 n4
    walk_at "vs"
    intro p5 hp5
    have s5 := same_new (.tup [V.str "plus", V.ref a, V.ref b]) hp5
    refine q p5 (.bin .plus r t) _ (s1.trans (s2.trans (s3.trans (s4.trans s5)))) (.bin (op := .plus) upd_same ((R3.same s4).same s5) (R4.same s5)) ⟨g2, g4⟩ ?_ ?_
    · show max r.depth t.depth + 1 ≤ _; omega
    · rw [List.length_take] at n2
      rw [List.length_drop] at n4
      show 1 + r.nodes + t.nodes + 1 ≤ _
      rw [show min (as.length / 2) as.length = as.length / 2 by omega] at n2
      have : as.length / 2 * (n + 1) + (as.length - as.length / 2) * (n + 1) = as.length * (n + 1) := by rw [← Nat.add_mul]; congr 1; omega
      omega
theorem ok_summed {f : Addr} {fd : FuncData} (T_summed : FnT K mg "summed" s_summed ["parts"] f fd) (T : Blt mg) : ∀ k, FnOk P w K mg base CX0 (k + 1) f fd ["parts"] (spSummed k)
  | 0 => step_summed T_summed (never fun _ _ _ _ z => z) T
  | k + 1 => step_summed T_summed (ok_summed T_summed T k) T
end

section
variable {P : Program} {w : World} {K : PySem.W.Frag} {mg : Str → Option Value} {base : Heap} {CE : Addr}
/-- a record with reads -/
noncomputable def RecAt (H : Hp) (a : Addr) (as : List Addr) (ps : List Rdp) : Prop := ∃ (v : V) (l : Addr) (wo : Int), H a = some (.tup [v, .ref l, .int wo]) ∧ H l = some (.lst (as.map V.ref)) ∧ IsRds H as ps ∧ ps.length ≤ 29 ∧ (ps.map (·.1)).Nodup ∧ (∀ x ∈ ps, RdOk x) ∧ -1000000 ≤ wo ∧ wo ≤ 1000000
theorem RecAt.same {H H' : Hp} {a : Addr} {as : List Addr} {ps : List Rdp} (s : Same H H') (h : RecAt H a as ps) : RecAt H' a as ps := by
  obtain ⟨v, l, wo, e1, e2, e3, r⟩ := h
  exact ⟨v, l, wo, s _ _ e1, s _ _ e2, e3.same s, r⟩
noncomputable def spTwin (CE : Addr) : Sp := fun vs H Q E => ∃ (a : Addr) (k : Int) (as : List Addr) (ps : List Rdp), vs = [.ref a, .int k] ∧ RecAt H a as ps ∧
  (if 0 ≤ k ∧ k < (ps.length : Int) then ∀ b r H', Same H H' → IsR H' b r → Q (.ref b) H' else ∀ H', Same H H' → E (.ref CE) none H')
noncomputable abbrev s_twin_of : Stmt := top 27
theorem sc_twin_of : FnScope ["record", "k", "reads", "rows", "rest", "twin"] ["record", "k"] (defScope s_twin_of) := ⟨rfl, rfl, rfl, by decide +kernel, rfl, by decide +kernel, by decide +kernel⟩
theorem lo_twin_of_reads : Loc (defScope s_twin_of) "reads" := by decide +kernel
theorem vo_twin_of_record : VarOk (defScope s_twin_of) "record" := by decide +kernel
theorem vo_twin_of_k : VarOk (defScope s_twin_of) "k" := by decide +kernel
theorem gl_twin_of_len : (defScope s_twin_of).names.lookup ("len" : Str) = some NameKind.globalImplicit := by decide +kernel
theorem vo_twin_of_reads : VarOk (defScope s_twin_of) "reads" := by decide +kernel
theorem nn_twin_of_len : ("len" : Str) ≠ "__name__" := by decide +kernel
theorem db_twin_of_len : (("len" : Str) == ("__debug__" : Str)) = false := by decide +kernel
theorem gl_twin_of_NoRead : (defScope s_twin_of).names.lookup ("NoRead" : Str) = some NameKind.globalImplicit := by decide +kernel
theorem db_twin_of_NoRead : (("NoRead" : Str) == ("__debug__" : Str)) = false := by decide +kernel
theorem gl_twin_of_set : (defScope s_twin_of).names.lookup ("set" : Str) = some NameKind.globalImplicit := by decide +kernel
theorem nn_twin_of_set : ("set" : Str) ≠ "__name__" := by decide +kernel
theorem db_twin_of_set : (("set" : Str) == ("__debug__" : Str)) = false := by decide +kernel
theorem lo_twin_of_rows : Loc (defScope s_twin_of) "rows" := by decide +kernel
theorem gl_twin_of_rows_of : (defScope s_twin_of).names.lookup ("rows_of" : Str) = some NameKind.globalImplicit := by decide +kernel
theorem db_twin_of_rows_of : (("rows_of" : Str) == ("__debug__" : Str)) = false := by decide +kernel
theorem lo_twin_of_rest : Loc (defScope s_twin_of) "rest" := by decide +kernel
theorem gl_twin_of_sum : (defScope s_twin_of).names.lookup ("sum" : Str) = some NameKind.globalImplicit := by decide +kernel
theorem vo_twin_of_rows : VarOk (defScope s_twin_of) "rows" := by decide +kernel
theorem nn_twin_of_sum : ("sum" : Str) ≠ "__name__" := by decide +kernel
theorem db_twin_of_sum : (("sum" : Str) == ("__debug__" : Str)) = false := by decide +kernel
theorem lo_twin_of_twin : Loc (defScope s_twin_of) "twin" := by decide +kernel
theorem gl_twin_of_summed : (defScope s_twin_of).names.lookup ("summed" : Str) = some NameKind.globalImplicit := by decide +kernel
theorem db_twin_of_reading : (("reading" : Str) == ("__debug__" : Str)) = false := by decide +kernel
theorem vo_twin_of_rest : VarOk (defScope s_twin_of) "rest" := by decide +kernel
theorem db_twin_of_summed : (("summed" : Str) == ("__debug__" : Str)) = false := by decide +kernel
theorem gl_twin_of_is_recipe : (defScope s_twin_of).names.lookup ("is_recipe" : Str) = some NameKind.globalImplicit := by decide +kernel
theorem vo_twin_of_twin : VarOk (defScope s_twin_of) "twin" := by decide +kernel
theorem db_twin_of_is_recipe : (("is_recipe" : Str) == ("__debug__" : Str)) = false := by decide +kernel
theorem ok_twin_of {f g1 g2 g3 g4 : Addr} {fd gd1 gd2 gd3 gd4 : FuncData} (T_twin_of : FnT K mg "twin_of" s_twin_of ["record", "k"] f fd)
    (T_rows_of : FnT K mg "rows_of" s_rows_of ["reads"] g1 gd1) (G_rows_of : FnOk P w K mg base CX0 1 g1 gd1 ["reads"] spRows)
    (T_reading : FnT K mg "reading" s_reading ["row"] g2 gd2) (G_reading : FnOk P w K mg base CX0 1 g2 gd2 ["row"] spReading)
    (T_summed : FnT K mg "summed" s_summed ["parts"] g3 gd3) (G_summed : FnOk P w K mg base CX0 5 g3 gd3 ["parts"] (spSummed 4))
    (T_is_recipe : FnT K mg "is_recipe" s_is_recipe ["thing"] g4 gd4) (G_is_recipe : FnOk P w K mg base CX0 4 g4 gd4 ["thing"] (spIsRec K))
    (T : Blt mg) (cNoRead : ExC K CE) (mNoRead : mg "NoRead" = some (.ref CE)) : FnOk P w K mg base (CXx P w) 6 f fd ["record", "k"] (spTwin CE) := by
  refine T_twin_of.F.okX sc_twin_of (fun vs H Q E h => ?_) (fun cdv A outer s H vs Q E hr h => ?_)
  · obtain ⟨a, k, as, ps, rfl, _⟩ := h
    rfl
  obtain ⟨a, k, as, ps, rfl, ⟨v, l, wo, ea, el, hR, hn, hnd, hok, hw1, hw2⟩, q⟩ := h
  refine ⟨_, (qss_cons (qs_set (i := 2) sc_twin_of.nd rfl lo_twin_of_reads (qe_ix qix_tup (qe_var 0 vo_twin_of_record) qe_int))
    (qss_cons (qs_if (qt_not (qt_chain qop_le qop_lt qe_int (qe_var 1 vo_twin_of_k) (qe_callB qc_len_seq gl_twin_of_len T.b_len bt_len (qa_N (qe_var 2 vo_twin_of_reads) qa_nil) nn_twin_of_len db_twin_of_len))) (qss_one (qs_raise cNoRead gl_twin_of_NoRead mNoRead (qa_C qe_str qa_nil) db_twin_of_NoRead)) qss_nil)
    (qss_cons (qs_if (qt_cmp qop_lt (qe_callB qc_lenT gl_twin_of_len T.b_len bt_len (qa_F (qe_callTy (qc_setT rfl) gl_twin_of_set T.b_set bt_set (qa_M (qe_comp rfl (n := 1) (fr := []) (N := ["read"]) (cs_mk (scX := defScope s_twin_of) (NX := ["record", "k", "reads", "rows", "rest", "twin"]) rfl rfl (by decide +kernel)) (qi_list (qe_var 2 vo_twin_of_reads)) (fun _ _ _ _ _ => (qgx (i := 0) (show List.Nodup (α := Str) ["read"] by decide) (locC (by decide +kernel)))) (fun _ _ _ _ _ => qi_nil) (fun _ _ _ _ _ => (qe_ix (qix_tupK (K := K) rfl) (qe_var 0 (VarC.ok (by decide +kernel))) qe_int))) qa_nil) nn_twin_of_set db_twin_of_set) qa_nil) nn_twin_of_len db_twin_of_len) (qe_callB qc_len_seq gl_twin_of_len T.b_len bt_len (qa_N (qe_var 2 vo_twin_of_reads) qa_nil) nn_twin_of_len db_twin_of_len) (nomarkQ _)) (qss_one (qs_raise cNoRead gl_twin_of_NoRead mNoRead (qa_C qe_str qa_nil) db_twin_of_NoRead)) qss_nil)
    (qss_cons (qs_set (i := 3) sc_twin_of.nd rfl lo_twin_of_rows (qe_op qop_cat (qe_call (G_rows_of.mono (by omega)) hr gl_twin_of_rows_of T_rows_of.m T_rows_of.F.kp T_rows_of.b .nil pass0 (qa_S (qe_slice qsl_list (qe_var 2 vo_twin_of_reads) qo_none (qo_some (qe_op qop_add (qe_var 1 vo_twin_of_k) qe_int))) qa_nil) db_twin_of_rows_of) (qe_call (G_rows_of.mono (by omega)) hr gl_twin_of_rows_of T_rows_of.m T_rows_of.F.kp T_rows_of.b .nil pass0 (qa_S (qe_slice qsl_list (qe_var 2 vo_twin_of_reads) (qo_some (qe_op qop_add (qe_var 1 vo_twin_of_k) qe_int)) qo_none) qa_nil) db_twin_of_rows_of)))
    (qss_cons (qs_set (i := 4) sc_twin_of.nd rfl lo_twin_of_rest (qe_op qop_sub (qe_ix qix_tup (qe_var 0 vo_twin_of_record) qe_int) (qe_callB (qc_sumL rfl) gl_twin_of_sum T.b_sum bt_sum (qa_M (qe_comp rfl (n := 1) (fr := []) (N := ["row"]) (cs_mk (scX := defScope s_twin_of) (NX := ["record", "k", "reads", "rows", "rest", "twin"]) rfl rfl (by decide +kernel)) (qi_list (qe_var 3 vo_twin_of_rows)) (fun _ _ _ _ _ => (qgx (i := 0) (show List.Nodup (α := Str) ["row"] by decide) (locC (by decide +kernel)))) (fun _ _ _ _ _ => qi_nil) (fun _ _ _ _ _ => (qe_ix (qix_tupK (K := K) rfl) (qe_ix (qix_listK (K := K) rfl) (qe_var 0 (VarC.ok (by decide +kernel))) (qe_un qun_neg qe_int)) qe_int))) qa_nil) nn_twin_of_sum db_twin_of_sum)))
    (qss_cons (qs_set (i := 5) sc_twin_of.nd rfl lo_twin_of_twin (qe_call (G_summed.mono (by omega)) hr gl_twin_of_summed T_summed.m T_summed.F.kp T_summed.b .nil pass0 (qa_B (qe_op qop_cat (qe_comp rfl (n := 1) (fr := []) (N := ["row"]) (cs_mk (scX := defScope s_twin_of) (NX := ["record", "k", "reads", "rows", "rest", "twin"]) rfl rfl (by decide +kernel)) (qi_list (qe_var 3 vo_twin_of_rows)) (fun _ _ _ _ _ => (qgx (i := 0) (show List.Nodup (α := Str) ["row"] by decide) (locC (by decide +kernel)))) (fun _ _ _ _ _ => qi_nil) (fun _ _ _ _ _ => (qe_call (G_reading.mono (by omega)) hr (glC (by decide +kernel)) T_reading.m T_reading.F.kp T_reading.b .nil pass0 (qa_N (qe_var 0 (VarC.ok (by decide +kernel))) qa_nil) db_twin_of_reading))) (qe_lst (qa_T (qe_tup (qa_C qe_str (qa_N (qe_var 4 vo_twin_of_rest) qa_nil))) qa_nil))) qa_nil) db_twin_of_summed))
    (qss_cons (qs_if (qt_not (qt_val (qe_call (G_is_recipe.mono (by omega)) hr gl_twin_of_is_recipe T_is_recipe.m T_is_recipe.F.kp T_is_recipe.b .nil pass0 (qa_N (qe_var 5 vo_twin_of_twin) qa_nil) db_twin_of_is_recipe))) (qss_one (qs_raise cNoRead gl_twin_of_NoRead mNoRead (qa_C qe_str qa_nil) db_twin_of_NoRead)) qss_nil)
    (qss_one (qs_ret (qe_var 5 vo_twin_of_twin)))))))))), ?_⟩
  have hl := hR.length
  have hlm : (as.map V.ref).length = as.length := List.length_map _
  have ata : atI [v, .ref l, .int wo] 1 = some (.ref l) := atI_nat (j := 1) rfl
  have atw : atI [v, .ref l, .int wo] 2 = some (.int wo) := atI_nat (j := 2) rfl
  walk_at "vs"
  by_cases hk0 : 0 ≤ k
  rotate_left
  · rw [if_neg (fun z => hk0 z.1)] at q
    refine itD_f hk0 ?_
    walk_at "vs"
    exact q H (Same.refl _)
  refine itD_t hk0 ?_
  obtain ⟨j, rfl⟩ := Int.eq_ofNat_of_zero_le hk0
  walk_at "vs"
  by_cases hk1 : j < ps.length
  rotate_left
  · rw [if_neg (fun z => hk1 (by have := z.2; omega))] at q
    rw [decide_eq_false (show ¬ (j : Int) < (((as.map V.ref).length : Nat) : Int) by rw [hlm]; omega)]
    walk_at "vs"
    exact q H (Same.refl _)
  rw [if_pos ⟨hk0, by omega⟩] at q
  rw [decide_eq_true (show (j : Int) < (((as.map V.ref).length : Nat) : Int) by rw [hlm]; omega)]
  walk_at "vs"
  intro D hD
  refine comp_list (xs := as.map V.ref) (fun i σ' H' => (∃ t, σ' = [t]) ∧ Same H H' ∧ H' D = some (.lst (((ps.take i).map (·.1)).map V.str))) ?_ ?_ ?_ ?_
  · exact ⟨⟨none, rfl⟩, same_new _ hD, upd_same⟩
  · intro i σ' H' _ hP
    exact SqL.of (hP.2.1 _ _ el)
  · intro i x σ' H' hx hP
    obtain ⟨⟨t, rfl⟩, hs, eD⟩ := hP
    obtain ⟨b, hb, rfl⟩ := ref_at hx
    obtain ⟨pb, hpb, eb⟩ := hR.get i b hb
    have eb' := hs _ _ eb
    have atb : atI (rdV pb) 0 = some (.str pb.1) := atI_nat (j := 0) rfl
    have hz : (((ps.take i).map (·.1)).map V.str).length < sizeLine := by
      rw [List.length_map, List.length_map, List.length_take]; exact small1000 (by omega)
    walk_at "vs"
    refine ⟨⟨_, rfl⟩, same_updN _ hD hs, ?_⟩
    rw [upd_same, List.take_succ, hpb, List.map_append, List.map_append]
    rfl
  intro σ' H1 hP
  obtain ⟨_, s1, eD⟩ := hP
  rw [hlm, hl, List.take_length] at eD
  have hsl : (ps.map (·.1)).length ≤ 1000 := by rw [List.length_map]; omega
  have el1 := s1 _ _ el
  have ea1 := s1 _ _ ea
  walk_at "vs"
  intro p2 hp2
  rw [metS_nodup _ [] (by simpa using hnd), List.nil_append]
  have s2 := same_new (TxS (cxOf (CXx P w) P w K mg base ["record", "k", "reads", "rows", "rest", "twin"] "twin_of" (defScope s_twin_of) f cdv A outer s H E) p2 (ps.map (·.1))) hp2
  have e2 : upd H1 p2 (TxS (cxOf (CXx P w) P w K mg base ["record", "k", "reads", "rows", "rest", "twin"] "twin_of" (defScope s_twin_of) f cdv A outer s H E) p2 (ps.map (·.1))) p2 = some (TxS (cxOf (CXx P w) P w K mg base ["record", "k", "reads", "rows", "rest", "twin"] "twin_of" (defScope s_twin_of) f cdv A outer s H E) p2 (ps.map (·.1))) := upd_same
  generalize upd H1 p2 (TxS (cxOf (CXx P w) P w K mg base ["record", "k", "reads", "rows", "rest", "twin"] "twin_of" (defScope s_twin_of) f cdv A outer s H E) p2 (ps.map (·.1))) = H2 at *
  have el2 := s2 _ _ el1
  have ea2 := s2 _ _ ea1
  have s02 := s1.trans s2
  have hR2 := hR.same s02
  walk_at "vs"
  refine itD_f (by rw [List.length_map, List.length_map]; omega) ?_
  clear e2 eD hD hp2 el1 ea1 el ea
  walk_at "vs"
  intro p3 hp3
  rw [show ((j : Int) + 1) = ((j + 1 : Nat) : Int) from rfl, cut_to, ← List.map_take]
  have s3 := same_new (.lst ((as.take (j + 1)).map V.ref)) hp3
  have e3 : upd H2 p3 (.lst ((as.take (j + 1)).map V.ref)) p3 = some (.lst ((as.take (j + 1)).map V.ref)) := upd_same
  generalize upd H2 p3 (.lst ((as.take (j + 1)).map V.ref)) = H3 at *
  have lt1 : (ps.take (j + 1)).length = j + 1 := by rw [List.length_take]; omega
  have lt2 : (ps.drop (j + 1)).length = ps.length - (j + 1) := by rw [List.length_drop]
  refine ⟨p3, as.take (j + 1), ps.take (j + 1), rfl, e3, (hR2.same s3).take _, by omega, fun x hx => hok x (List.mem_of_mem_take hx), fun q1 qs1 H4 s4 e4 l4 r4 => ?_⟩
  rw [lt1] at l4
  have el4 := s4 _ _ (s3 _ _ el2)
  have hR4 := (hR2.same s3).same s4
  walk_at "vs"
  intro p5 hp5
  rw [show ((j : Int) + 1) = ((j + 1 : Nat) : Int) from rfl, cut_from', ← List.map_drop]
  have s5 := same_new (.lst ((as.drop (j + 1)).map V.ref)) hp5
  have e5 : upd H4 p5 (.lst ((as.drop (j + 1)).map V.ref)) p5 = some (.lst ((as.drop (j + 1)).map V.ref)) := upd_same
  generalize upd H4 p5 (.lst ((as.drop (j + 1)).map V.ref)) = H5 at *
  refine ⟨p5, as.drop (j + 1), ps.drop (j + 1), rfl, e5, (hR4.same s5).drop _, by omega, fun x hx => hok x (List.mem_of_mem_drop hx), fun q2 qs2 H6 s6 e6 l6 r6 => ?_⟩
  rw [lt2] at l6
  have e46 := s6 _ _ (s5 _ _ e4)
  have hzz : (qs1.map V.ref).length + (qs2.map V.ref).length ≤ sizeLine := by rw [List.length_map, List.length_map]; exact Nat.le_of_lt (small1000 (by omega))
  walk_at "vs"
  intro p7 hp7
  rw [← List.map_append]
  have s7 := same_new (.lst ((qs1 ++ qs2).map V.ref)) hp7
  have e7 : upd H6 p7 (.lst ((qs1 ++ qs2).map V.ref)) p7 = some (.lst ((qs1 ++ qs2).map V.ref)) := upd_same
  have r7 : ∀ a ∈ qs1 ++ qs2, RowAt (upd H6 p7 (.lst ((qs1 ++ qs2).map V.ref))) a 3 := fun a ha => (List.mem_append.mp ha).elim (fun z => (r4 a z).same (s5.trans (s6.trans s7))) fun z => (r6 a z).same s7
  have l7 : (qs1 ++ qs2).length ≤ 11 := by rw [List.length_append]; omega
  have l71 : 1 ≤ (qs1 ++ qs2).length := by rw [List.length_append]; omega
  have s07 := s02.trans (s3.trans (s4.trans (s5.trans (s6.trans s7))))
  have ea7 := (s3.trans (s4.trans (s5.trans (s6.trans s7)))) _ _ ea2
  generalize upd H6 p7 (.lst ((qs1 ++ qs2).map V.ref)) = H7 at *
  generalize qs1 ++ qs2 = qs at *
  clear e46 hzz e6 l6 r6 s6 s5 e5 hp5 hR4 el4 e4 l4 r4 s4 s3 e3 lt1 lt2 hp3 hR2 s02 el2 ea2 s1 s2 hp7 s7
  walk_at "vs"
  intro D2 hD2
  have hlq : (qs.map V.ref).length = qs.length := List.length_map _
  refine comp_list (xs := qs.map V.ref) (fun i σ' H' => (∃ t, σ' = [t]) ∧ Same H7 H' ∧ ∃ ns : List Int, H' D2 = some (.lst (ns.map V.int)) ∧ ns.length = i ∧ ∀ x ∈ ns, -100 ≤ x ∧ x ≤ 100) ?_ ?_ ?_ ?_
  · exact ⟨⟨none, rfl⟩, same_new _ hD2, [], upd_same, rfl, by simp⟩
  · intro i σ' H' _ hP
    exact SqL.of (hP.2.1 _ _ e7)
  · intro i x σ' H' hx hP
    obtain ⟨⟨t, rfl⟩, hs, ns, eD, hln, hns⟩ := hP
    have hi : i < (qs.map V.ref).length := (List.getElem?_eq_some_iff.mp hx).1
    obtain ⟨b, hb, rfl⟩ := ref_at hx
    obtain ⟨bs, zs, eb, hRb, hb1, hb3, hbo⟩ := (r7 b (List.mem_of_getElem? hb)).same hs
    have hlb := hRb.length
    have hbn : bs[bs.length - 1]? = some bs[bs.length - 1] := List.getElem?_eq_getElem (by omega)
    obtain ⟨pb, hpb, epb⟩ := hRb.get _ _ hbn
    have hpo := hbo pb (List.mem_of_getElem? hpb)
    have atl : atI (bs.map V.ref) (-1) = some (.ref bs[bs.length - 1]) := by
      have : atI (bs.map V.ref) (-1) = (bs.map V.ref)[(bs.map V.ref).length - 1]? := atI_m1 (by rw [List.length_map]; omega)
      rw [this, List.getElem?_map, List.length_map, hbn]; rfl
    have atb : atI (rdV pb) 1 = some (.int pb.2) := atI_nat (j := 1) rfl
    have hz : (ns.map V.int).length < sizeLine := by
      rw [List.length_map]; exact small1000 (by omega)
    walk_at "vs"
    refine ⟨⟨_, rfl⟩, same_updN _ hD2 hs, ns ++ [pb.2], by rw [upd_same, List.map_append]; rfl, by rw [List.length_append, hln]; rfl, fun x hx => ?_⟩
    rcases List.mem_append.mp hx with z | z
    · exact hns x z
    · have : x = pb.2 := by simpa using z
      rw [this]; exact ⟨hpo.2.1, hpo.2.2⟩
  intro σ'' H8 hP
  obtain ⟨_, s8, ns, eN, hln, hns⟩ := hP
  obtain ⟨hfit, hsum⟩ := fits100 hns (by omega)
  have ea8 := s8 _ _ ea7
  have e78 := s8 _ _ e7
  walk_at "vs"
  intro D3 hD3
  refine comp_list (xs := qs.map V.ref) (fun i σ' H' => (∃ t, σ' = [t]) ∧ Same H8 H' ∧ ∃ rs : List Addr, H' D3 = some (.lst (rs.map V.ref)) ∧ rs.length = i ∧ Prts H' 3 3 rs) ?_ ?_ ?_ ?_
  · exact ⟨⟨none, rfl⟩, same_new _ hD3, [], upd_same, rfl, fun a ha => by simp at ha⟩
  · intro i σ' H' _ hP
    exact SqL.of (hP.2.1 _ _ e78)
  · intro i x σ' H' hx hP
    obtain ⟨⟨t, rfl⟩, hs, rs, eD, hlr, hrs⟩ := hP
    have hi : i < (qs.map V.ref).length := (List.getElem?_eq_some_iff.mp hx).1
    obtain ⟨b, hb, rfl⟩ := ref_at hx
    have hrow := (r7 b (List.mem_of_getElem? hb)).same (s8.trans hs)
    have hz : (rs.map V.ref).length < sizeLine := by
      rw [List.length_map]; exact small1000 (by omega)
    refine ⟨_, rfl, b, rfl, hrow, fun x r H9 s9 R9 g9 d9 n9 => ⟨_, s9 _ _ eD, hz, ⟨_, rfl⟩, same_updN _ hD3 (hs.trans s9), rs ++ [x], by rw [upd_same, List.map_append]; rfl, by rw [List.length_append, hlr]; rfl, ?_⟩⟩
    have tp := tups_set (.lst (rs.map V.ref ++ [V.ref x])) (s9 _ _ eD)
    refine Prts.app (fun a ha => ?_) (fun a ha => ?_)
    · obtain ⟨r, h1, h2⟩ := hrs.same s9 a ha
      exact ⟨r, h1.tups tp, h2⟩
    · have : a = x := by simpa using ha
      rw [this]
      exact ⟨r, R9.tups tp, g9, d9, n9⟩
  intro σ3 H9 hP
  obtain ⟨_, s9, rs, eR, hlr, hrs⟩ := hP
  rw [hlq] at hlr
  walk_at "vs"
  intro p10 hp10
  walk_at "vs"
  intro p11 hp11
  have s10 := same_new (.tup [V.str "number", V.int (wo - ns.sum)]) hp10
  have s11 := same_new (.lst [V.ref p10]) hp11
  have R11 : IsR (upd (upd H9 p10 (.tup [V.str "number", V.int (wo - ns.sum)])) p11 (.lst [V.ref p10])) p10 (.num (wo - ns.sum)) := .num (s11 _ _ upd_same)
  have e11 : upd (upd H9 p10 (.tup [V.str "number", V.int (wo - ns.sum)])) p11 (.lst [V.ref p10]) p11 = some (.lst [V.ref p10]) := upd_same
  have eR11 := (s10.trans s11) _ _ eR
  have hr11 := hrs.same (s10.trans s11)
  have s011 := s07.trans (s8.trans (s9.trans (s10.trans s11)))
  generalize upd (upd H9 p10 (.tup [V.str "number", V.int (wo - ns.sum)])) p11 (.lst [V.ref p10]) = H11 at *
  have hzz : (rs.map V.ref).length + [V.ref p10].length ≤ sizeLine := by rw [List.length_map]; exact Nat.le_of_lt (small1000 (by show rs.length + 1 ≤ _; omega))
  walk_at "vs"
  intro p12 hp12
  rw [show rs.map V.ref ++ [V.ref p10] = (rs ++ [p10]).map V.ref from by rw [List.map_append]; rfl]
  have s12 := same_new (.lst ((rs ++ [p10]).map V.ref)) hp12
  have e12 : upd H11 p12 (.lst ((rs ++ [p10]).map V.ref)) p12 = some (.lst ((rs ++ [p10]).map V.ref)) := upd_same
  have P12 : Prts (upd H11 p12 (.lst ((rs ++ [p10]).map V.ref))) 3 3 (rs ++ [p10]) := (hr11.same s12).app fun a ha => by
    have : a = p10 := by simpa using ha
    rw [this]
    exact ⟨_, R11.same s12, (show (wo - ns.sum).natAbs < 10 ^ 40 by omega), (show 1 ≤ 3 by decide), (show 1 ≤ 3 by decide)⟩
  generalize upd H11 p12 (.lst ((rs ++ [p10]).map V.ref)) = H12 at *
  have hl12 : (rs ++ [p10]).length = rs.length + 1 := by rw [List.length_append]; rfl
  refine ⟨p12, rs ++ [p10], 3, 3, rfl, e12, P12, by omega, by omega, by omega, fun b r H13 s13 R13 g13 d13 n13 => ?_⟩
  have n100 := nodes100 g13 (by omega) (by omega)
  have ht := R13.isTh (K := K)
  have hsh := r.short (good_fine g13)
  walk_at "vs"
  intro H14 s14
  rw [n100]
  walk_at "vs"
  exact q b r H14 (s011.trans (s12.trans (s13.trans s14))) (R13.same s14)
end

section
variable {P : Program} {w : World} {K : PySem.W.Frag} {mg : Str → Option Value} {base : Heap}
noncomputable abbrev s_law_cell_at : Stmt := top 29
theorem sc_law_cell_at : FnScope ["script", "k"] ["script", "k"] (defScope s_law_cell_at) := ⟨rfl, rfl, rfl, by decide +kernel, rfl, by decide +kernel, by decide +kernel⟩
theorem vo_law_cell_at_k : VarOk (defScope s_law_cell_at) "k" := by decide +kernel
theorem gl_law_cell_at_len : (defScope s_law_cell_at).names.lookup ("len" : Str) = some NameKind.globalImplicit := by decide +kernel
theorem vo_law_cell_at_script : VarOk (defScope s_law_cell_at) "script" := by decide +kernel
theorem nn_law_cell_at_len : ("len" : Str) ≠ "__name__" := by decide +kernel
theorem db_law_cell_at_len : (("len" : Str) == ("__debug__" : Str)) = false := by decide +kernel
theorem ok_law_cell_at {f : Addr} {fd : FuncData} (T_law_cell_at : FnT K mg "_law_cell_at" s_law_cell_at ["script", "k"] f fd) (T : Blt mg) : FnOk P w K mg base CX0 1 f fd ["script", "k"] (spCell K) := by
  refine T_law_cell_at.F.okQ sc_law_cell_at (fun vs H Q E h => ?_) (fun cdv A outer s H vs Q E hr h => ?_)
  · obtain ⟨a, ns, k, rfl, _⟩ := h
    rfl
  obtain ⟨a, ns, k, rfl, hS, h0, q⟩ := h
  refine ⟨_, (qss_cons (qs_if (qt_cmp qop_lt (qe_var 1 vo_law_cell_at_k) (qe_callB qc_len_seq gl_law_cell_at_len T.b_len bt_len (qa_N (qe_var 0 vo_law_cell_at_script) qa_nil) nn_law_cell_at_len db_law_cell_at_len) (nomarkQ _)) (qss_one (qs_ret (qe_ix qix_list (qe_var 0 vo_law_cell_at_script) (qe_var 1 vo_law_cell_at_k)))) qss_nil)
    (qss_one (qs_ret qe_int))), ?_⟩
  walk_at "vs"
  refine ite2 (fun c1 => ?_) (fun c1 => ?_)
  · have c1' : k < ((ns.map V.int).length : Int) := by simpa using c1
    obtain ⟨v, j, hv, _⟩ := at_ok h0 c1'
    walk_at "vs"
    exact q _
  · walk_at "vs"
    exact q _
noncomputable abbrev s_law_pool : Stmt := top 30
theorem sc_law_pool : FnScope ["script", "k"] ["script", "k"] (defScope s_law_pool) := ⟨rfl, rfl, rfl, by decide +kernel, rfl, by decide +kernel, by decide +kernel⟩
theorem vo_law_pool_k : VarOk (defScope s_law_pool) "k" := by decide +kernel
theorem gl_law_pool__law_cell_at : (defScope s_law_pool).names.lookup ("_law_cell_at" : Str) = some NameKind.globalImplicit := by decide +kernel
theorem vo_law_pool_script : VarOk (defScope s_law_pool) "script" := by decide +kernel
theorem db_law_pool__law_cell_at : (("_law_cell_at" : Str) == ("__debug__" : Str)) = false := by decide +kernel
theorem ok_law_pool {f g : Addr} {fd gd : FuncData} (T_law_pool : FnT K mg "_law_pool" s_law_pool ["script", "k"] f fd) (T_law_cell_at : FnT K mg "_law_cell_at" s_law_cell_at ["script", "k"] g gd) (G_law_cell_at : FnOk P w K mg base CX0 1 g gd ["script", "k"] (spCell K)) (T : Blt mg) :
    FnOk P w K mg base CX0 2 f fd ["script", "k"] (spPool K) := by
  refine T_law_pool.F.okQ sc_law_pool (fun vs H Q E h => ?_) (fun cdv A outer s H vs Q E hr h => ?_)
  · obtain ⟨a, ns, k, rfl, _⟩ := h
    rfl
  obtain ⟨a, ns, k, rfl, hS, h0, h1, q⟩ := h
  refine ⟨_, (qss_one (qs_ret (qe_disp (qp_cons qe_str (qe_call (G_law_cell_at.mono (by omega)) hr gl_law_pool__law_cell_at T_law_cell_at.m T_law_cell_at.F.kp T_law_cell_at.b .nil pass0 (qa_N (qe_var 0 vo_law_pool_script) (qa_N (qe_var 1 vo_law_pool_k) qa_nil)) db_law_pool__law_cell_at) (qp_cons qe_str (qe_cmp qop_eq (qe_op qop_mod (qe_call (G_law_cell_at.mono (by omega)) hr gl_law_pool__law_cell_at T_law_cell_at.m T_law_cell_at.F.kp T_law_cell_at.b .nil pass0 (qa_N (qe_var 0 vo_law_pool_script) (qa_C qe_int qa_nil)) db_law_pool__law_cell_at) qe_int) qe_int (nomarkQ _)) (qp_cons qe_str (qe_op qop_add qe_int (qe_op qop_mul qe_int (qe_var 1 vo_law_pool_k))) qp_nil)))))), ?_⟩
  walk_at "vs"
  intro p hp
  have s1 := same_new (.dK []) hp
  have hS1 := SqL.same s1 hS
  have e1 : upd H p (.dK []) p = some (.dK []) := upd_same
  generalize upd H p (.dK []) = H1 at *
  walk_at "vs"
  intro n1
  walk_at "vs"
  intro n2
  walk_at "vs"
  refine ⟨poolD n1 (decide (V.int (n2 % 2) = V.int 1)) (3 + 5 * k), rfl, by show 3 ≤ 15; decide, ?_⟩
  have em : mergeK [] (poolD n1 (decide (V.int (n2 % 2) = V.int 1)) (3 + 5 * k)) = poolD n1 (decide (V.int (n2 % 2) = V.int 1)) (3 + 5 * k) := rfl
  rw [em]
  exact q p _ (same_updN _ hp s1) hp ⟨_, _, _, upd_same, by omega, by omega⟩
noncomputable abbrev s_law_take : Stmt := top 31
theorem sc_law_take : FnScope ["pool", "many", "rest"] ["pool", "many"] (defScope s_law_take) := ⟨rfl, rfl, rfl, by decide +kernel, rfl, by decide +kernel, by decide +kernel⟩
theorem lo_law_take_rest : Loc (defScope s_law_take) "rest" := by decide +kernel
theorem vo_law_take_pool : VarOk (defScope s_law_take) "pool" := by decide +kernel
theorem vo_law_take_rest : VarOk (defScope s_law_take) "rest" := by decide +kernel
theorem vo_law_take_many : VarOk (defScope s_law_take) "many" := by decide +kernel
theorem ok_law_take {f : Addr} {fd : FuncData} (T_law_take : FnT K mg "_law_take" s_law_take ["pool", "many"] f fd) (T : Blt mg) : FnOk P w K mg base CX0 1 f fd ["pool", "many"] spTake := by
  refine T_law_take.F.okQ sc_law_take (fun vs H Q E h => ?_) (fun cdv A outer s H vs Q E hr h => ?_)
  · obtain ⟨p, c, many, rfl, _⟩ := h
    rfl
  obtain ⟨p, c, many, rfl, ⟨rest, mixed, count, e, h0, h1⟩, hc, hm, hlg, q⟩ := h
  refine ⟨_, (qss_cons (qs_set (i := 2) sc_law_take.nd rfl lo_law_take_rest (qe_dget (hu_of hr) (qe_var 0 vo_law_take_pool) qe_str))
    (qss_cons (qs_if (qt_not (qt_val (qe_dget (hu_of hr) (qe_var 0 vo_law_take_pool) qe_str))) (qss_cons (qs_dput (hu_of hr) (qe_var 0 vo_law_take_pool) qe_str (qe_op qop_fdiv (qe_var 2 vo_law_take_rest) (qe_var 1 vo_law_take_many)))
    (qss_one (qs_ret (qe_op qop_mod (qe_var 2 vo_law_take_rest) (qe_var 1 vo_law_take_many))))) qss_nil)
    (qss_cons (qs_dput (hu_of hr) (qe_var 0 vo_law_take_pool) qe_str (qe_op qop_add (qe_dget (hu_of hr) (qe_var 0 vo_law_take_pool) qe_str) qe_int))
    (qss_cons (qs_set (i := 2) sc_law_take.nd rfl lo_law_take_rest (qe_op qop_add (qe_op qop_mod (qe_var 2 vo_law_take_rest) qe_int) (qe_op qop_mul qe_int (qe_dget (hu_of hr) (qe_var 0 vo_law_take_pool) qe_str))))
    (qss_cons (qs_set (i := 2) sc_law_take.nd rfl lo_law_take_rest (qe_op qop_mod (qe_op qop_mul (qe_var 2 vo_law_take_rest) (qe_op qop_add (qe_var 2 vo_law_take_rest) qe_int)) qe_int))
    (qss_cons (qs_set (i := 2) sc_law_take.nd rfl lo_law_take_rest (qe_op qop_mod (qe_op qop_mul (qe_var 2 vo_law_take_rest) (qe_var 2 vo_law_take_rest)) qe_int))
    (qss_cons (qs_dput (hu_of hr) (qe_var 0 vo_law_take_pool) qe_str (qe_var 2 vo_law_take_rest))
    (qss_one (qs_ret (qe_op qop_mod (qe_op qop_fdiv (qe_var 2 vo_law_take_rest) qe_int) (qe_var 1 vo_law_take_many))))))))))), ?_⟩
  have d1 := pool_rest e
  have d2 := pool_mixed e
  have d3 := pool_count e
  walk_at "vs"
  cases mixed with
  | false =>
    walk_at "vs"
    refine And.intro (pool_put_rest e _) ?_
    walk_at "vs"
    exact q _ _ (Int.emod_nonneg _ (by omega)) (Int.emod_lt_of_pos _ hm) (But.set _ (by simp)) ⟨_, _, _, upd_same, h0, by omega⟩
  | true =>
    walk_at "vs"
    refine And.intro (pool_put_count e _) ?_
    have e2 : upd H p (.dK (poolD rest true (count + 1))) p = some (.dK (poolD rest true (count + 1))) := upd_same
    have b2 : But [p] H (upd H p (.dK (poolD rest true (count + 1)))) := But.set _ (by simp)
    clear d1 d2 d3
    generalize upd H p (.dK (poolD rest true (count + 1))) = H2 at *
    have d1 := pool_rest e2
    have d3 := pool_count e2
    have r0 := Int.emod_nonneg rest (show (1000000000163 : Int) ≠ 0 by decide)
    have r1 := Int.emod_lt_of_pos rest (show (0 : Int) < 1000000000163 by decide)
    have m1 : CMul 70001 (count + 1) := .inl ⟨by decide, by decide⟩
    have m2 : CMul (rest % 1000000000163 + 70001 * (count + 1)) (rest % 1000000000163 + 70001 * (count + 1) + 29) := .inl ⟨by omega, by omega⟩
    have z1 := Int.emod_nonneg ((rest % 1000000000163 + 70001 * (count + 1)) * (rest % 1000000000163 + 70001 * (count + 1) + 29)) (show (1000000000193 : Int) ≠ 0 by decide)
    have z2 := Int.emod_lt_of_pos ((rest % 1000000000163 + 70001 * (count + 1)) * (rest % 1000000000163 + 70001 * (count + 1) + 29)) (show (0 : Int) < 1000000000193 by decide)
    walk_at "vs"
    refine And.intro (pool_put_rest e2 _) ?_
    walk_at "vs"
    exact q _ _ (Int.emod_nonneg _ (by omega)) (Int.emod_lt_of_pos _ hm) (b2.trans (But.set _ (by simp))) ⟨_, _, _, upd_same, by omega, by omega⟩
noncomputable abbrev s_law_name : Stmt := top 32
theorem sc_law_name : FnScope ["k", "letters"] ["k"] (defScope s_law_name) := ⟨rfl, rfl, rfl, by decide +kernel, rfl, by decide +kernel, by decide +kernel⟩
theorem lo_law_name_letters : Loc (defScope s_law_name) "letters" := by decide +kernel
theorem vo_law_name_letters : VarOk (defScope s_law_name) "letters" := by decide +kernel
theorem vo_law_name_k : VarOk (defScope s_law_name) "k" := by decide +kernel
theorem ok_law_name {f : Addr} {fd : FuncData} (T_law_name : FnT K mg "_law_name" s_law_name ["k"] f fd) (T : Blt mg) : FnOk P w K mg base CX0 1 f fd ["k"] spLaName := by
  refine T_law_name.F.okQ sc_law_name (fun vs H Q E h => ?_) (fun cdv A outer s H vs Q E hr h => ?_)
  · obtain ⟨k, rfl, _⟩ := h
    rfl
  obtain ⟨k, rfl, hk, q⟩ := h
  refine ⟨_, (qss_cons (qs_set (i := 1) sc_law_name.nd rfl lo_law_name_letters qe_str)
    (qss_one (qs_ret (qe_op qop_add_str (qe_ix qix_str (qe_var 1 vo_law_name_letters) (qe_op qop_mod (qe_var 0 vo_law_name_k) qe_int)) (qe_op qop_mul0 (qe_ix qix_str (qe_var 1 vo_law_name_letters) (qe_op qop_mod (qe_op qop_mul (qe_var 0 vo_law_name_k) qe_int) qe_int)) (qe_op qop_mod (qe_op qop_mul (qe_var 0 vo_law_name_k) qe_int) qe_int)))))), ?_⟩
  have l1 := ltr_at (n := (k : Int) % 26) (i := k % 26) (by omega) (by omega)
  have l2 := ltr_at (n := (k : Int) * 7 % 26) (i := k * 7 % 26) (by omega) (by omega)
  have zl : ("abcdefghijklmnopqrstuvwxyz" : Str).length ≤ sizeLine := by decide +kernel
  have m1 : CMul (k : Int) 7 := .inr ⟨by decide, by decide⟩
  have m2 : CMul (k : Int) 5 := .inr ⟨by decide, by decide⟩
  have n0 : 0 ≤ (k : Int) * 5 % 8 := by omega
  have n1 : (k : Int) * 5 % 8 ≤ 1000 := by omega
  have o1 : (⟨#[k * 7 % 26 + 97]⟩ : Str).length ≤ 1000 := by show 1 ≤ 1000; decide
  have en : ((k : Int) * 5 % 8).toNat = k * 5 % 8 := by omega
  have q' : Q (.str (ltr (k % 26) ++ repS (ltr (k * 7 % 26)) ((k : Int) * 5 % 8).toNat)) H := by rw [en]; exact q
  have zz : (⟨#[k % 26 + 97]⟩ : Str).length + (repS (⟨#[k * 7 % 26 + 97]⟩ : Str) ((k : Int) * 5 % 8).toNat).length ≤ sizeLine := by
    rw [rep_len, en, sizeLine_eq]
    show 1 + k * 5 % 8 * 1 ≤ _
    omega
  walk_at "vs"
  exact q'
end

section
variable {P : Program} {w : World} {K : PySem.W.Frag} {mg : Str → Option Value} {base : Heap}
noncomputable def spLSum : Sp := fun vs H Q _ => ∃ (l : Addr) (wo : Int) (as : List Addr) (ps : List Rdp), vs = [.ref l, .int wo] ∧ H l = some (.lst (as.map V.ref)) ∧ IsRds H as ps ∧ ps.length ≤ 29 ∧ (∀ x ∈ ps, RdOk x) ∧ -1000000 ≤ wo ∧ wo ≤ 1000000 ∧
  ∀ a r H', Same H H' → IsR H' a r → r.Good → r.depth ≤ 8 → Q (.ref a) H'
noncomputable abbrev s_law_summed : Stmt := top 42
theorem sc_law_summed : FnScope ["reads", "worth", "parts", "pairs"] ["reads", "worth"] (defScope s_law_summed) := ⟨rfl, rfl, rfl, by decide +kernel, rfl, by decide +kernel, by decide +kernel⟩
theorem lo_law_summed_parts : Loc (defScope s_law_summed) "parts" := by decide +kernel
theorem vo_law_summed_reads : VarOk (defScope s_law_summed) "reads" := by decide +kernel
theorem vo_law_summed_parts : VarOk (defScope s_law_summed) "parts" := by decide +kernel
theorem vo_law_summed_worth : VarOk (defScope s_law_summed) "worth" := by decide +kernel
theorem gl_law_summed_sum : (defScope s_law_summed).names.lookup ("sum" : Str) = some NameKind.globalImplicit := by decide +kernel
theorem nn_law_summed_sum : ("sum" : Str) ≠ "__name__" := by decide +kernel
theorem db_law_summed_sum : (("sum" : Str) == ("__debug__" : Str)) = false := by decide +kernel
theorem gl_law_summed_len : (defScope s_law_summed).names.lookup ("len" : Str) = some NameKind.globalImplicit := by decide +kernel
theorem nn_law_summed_len : ("len" : Str) ≠ "__name__" := by decide +kernel
theorem db_law_summed_len : (("len" : Str) == ("__debug__" : Str)) = false := by decide +kernel
theorem lo_law_summed_pairs : Loc (defScope s_law_summed) "pairs" := by decide +kernel
theorem gl_law_summed_range : (defScope s_law_summed).names.lookup ("range" : Str) = some NameKind.globalImplicit := by decide +kernel
theorem vo_law_summed_pairs : VarOk (defScope s_law_summed) "pairs" := by decide +kernel
theorem ok_law_summed {f : Addr} {fd : FuncData} (T_law_summed : FnT K mg "_law_summed" s_law_summed ["reads", "worth"] f fd) (T : Blt mg) : FnOk P w K mg base CX0 1 f fd ["reads", "worth"] spLSum := by
  refine T_law_summed.F.okQ sc_law_summed (fun vs H Q E h => ?_) (fun cdv A outer s H vs Q E hr h => ?_)
  · obtain ⟨l, wo, as, ps, rfl, _⟩ := h
    rfl
  obtain ⟨l, wo, as, ps, rfl, el, hR, hn, hok, hw1, hw2, q⟩ := h
  refine ⟨_, (qss_cons (qs_set (i := 2) sc_law_summed.nd rfl lo_law_summed_parts (qe_comp rfl (n := 2) (fr := []) (N := ["name", "number"]) (cs_mk (scX := defScope s_law_summed) (NX := ["reads", "worth", "parts", "pairs"]) rfl rfl (by decide +kernel)) (qi_list (qe_var 0 vo_law_summed_reads)) (fun _ _ _ _ _ => (qg_tupK (K := K) (n := 2) rfl rfl (qgs_cons (qgx (i := 0) (show List.Nodup (α := Str) ["name", "number"] by decide) (locC (by decide +kernel))) (qgs_cons (qgx (i := 1) (show List.Nodup (α := Str) ["name", "number"] by decide) (locC (by decide +kernel))) qgs_nil)))) (fun _ _ _ _ _ => qi_nil) (fun _ _ _ _ _ => (qe_tup (qa_C qe_str (qa_N (qe_var 0 (VarC.ok (by decide +kernel))) qa_nil))))))
    (qss_cons (qs_expr (qe_bm PySem.F.plainAttrs_list PySem.F.slot_list_append PySem.F.type_list_append qmt_append (qe_var 2 vo_law_summed_parts) (qa_T (qe_tup (qa_C qe_str (qa_B (qe_op qop_sub (qe_var 1 vo_law_summed_worth) (qe_callB (qc_sumL rfl) gl_law_summed_sum T.b_sum bt_sum (qa_M (qe_comp rfl (n := 2) (fr := []) (N := ["name", "number"]) (cs_mk (scX := defScope s_law_summed) (NX := ["reads", "worth", "parts", "pairs"]) rfl rfl (by decide +kernel)) (qi_list (qe_var 0 vo_law_summed_reads)) (fun _ _ _ _ _ => (qg_tupK (K := K) (n := 2) rfl rfl (qgs_cons (qgx (i := 0) (show List.Nodup (α := Str) ["name", "number"] by decide) (locC (by decide +kernel))) (qgs_cons (qgx (i := 1) (show List.Nodup (α := Str) ["name", "number"] by decide) (locC (by decide +kernel))) qgs_nil)))) (fun _ _ _ _ _ => qi_nil) (fun _ _ _ _ _ => (qe_var 1 (VarC.ok (by decide +kernel))))) qa_nil) nn_law_summed_sum db_law_summed_sum)) qa_nil))) qa_nil)))
    (qss_cons (qs_while PassesOwn.never (qt_cmp qop_gt (qe_callB qc_len_seq gl_law_summed_len T.b_len bt_len (qa_N (qe_var 2 vo_law_summed_parts) qa_nil) nn_law_summed_len db_law_summed_len) qe_int (nomarkQ _)) (qss_cons (qs_setcomp (i := 3) rfl sc_law_summed.nd rfl lo_law_summed_pairs (n := 1) (fr := [2]) (N := ["k", "parts"]) (cs_mk (scX := defScope s_law_summed) (NX := ["reads", "worth", "parts", "pairs"]) rfl rfl (by decide +kernel)) (qi_range3 gl_law_summed_range T.b_range (qa_C qe_int (qa_B (qe_op qop_sub (qe_callB qc_len_seq gl_law_summed_len T.b_len bt_len (qa_N (qe_var 2 vo_law_summed_parts) qa_nil) nn_law_summed_len db_law_summed_len) qe_int) (qa_C qe_int qa_nil)))) (fun _ _ _ _ _ => (qgx (i := 0) (show List.Nodup (α := Str) ["k", "parts"] by decide) (locC (by decide +kernel)))) (fun _ _ _ _ _ => qi_nil) (fun _ _ _ _ _ => (qe_tup (qa_C qe_str (qa_S (qe_ix (qix_listK (K := K) rfl) (qe_var 1 (VarC.ok (by decide +kernel))) (qe_var 0 (VarC.ok (by decide +kernel)))) (qa_S (qe_ix (qix_listK (K := K) rfl) (qe_var 1 (VarC.ok (by decide +kernel))) (qe_op qop_add (qe_var 0 (VarC.ok (by decide +kernel))) qe_int)) qa_nil))))) rfl)
    (qss_one (qs_set (i := 2) sc_law_summed.nd rfl lo_law_summed_parts (qe_op qop_cat (qe_var 3 vo_law_summed_pairs) (qe_slice qsl_list (qe_var 2 vo_law_summed_parts) (qo_some (qe_op qop_mul (qe_callB qc_len_seq gl_law_summed_len T.b_len bt_len (qa_N (qe_var 3 vo_law_summed_pairs) qa_nil) nn_law_summed_len db_law_summed_len) qe_int)) qo_none))))))
    (qss_one (qs_ret (qe_ix qix_list (qe_var 2 vo_law_summed_parts) qe_int)))))), ?_⟩
  have hl := hR.length
  have hlm : (as.map V.ref).length = as.length := List.length_map _
  walk_at "vs"
  intro D hD
  refine comp_list (xs := as.map V.ref) (fun i σ' H' => (∃ t u, σ' = [t, u]) ∧ Same H H' ∧ Row H' D i 1) ?_ ?_ ?_ ?_
  · exact ⟨⟨none, none, rfl⟩, same_new _ hD, [], upd_same, rfl, by simp⟩
  · intro i σ' H' _ hP
    exact SqL.of (hP.2.1 _ _ el)
  · intro i x σ' H' hx hP
    obtain ⟨⟨t, u, rfl⟩, hs, rs, eD, hln, hrs⟩ := hP
    have hi : i < (as.map V.ref).length := (List.getElem?_eq_some_iff.mp hx).1
    obtain ⟨b, hb, rfl⟩ := ref_at hx
    obtain ⟨pb, hpb, eb⟩ := hR.get i b hb
    have eb' := hs _ _ eb
    have hpo := hok pb (List.mem_of_getElem? hpb)
    have hz : (rs.map V.ref).length < sizeLine := by
      rw [List.length_map]; exact small1000 (by omega)
    walk_at "vs"
    intro p5 hp5
    have s5 := same_new (.tup [V.str "read", V.str pb.1]) hp5
    have eD5 := s5 _ _ eD
    refine ⟨_, eD5, hz, ⟨_, _, rfl⟩, same_updN _ hD (hs.trans s5), ?_⟩
    refine Row.add (r := .rd pb.1) eD5 hln (fun a ha => ?_) (.rd upd_same) hpo.1 (Nat.le_refl _)
    obtain ⟨r, h1, h2⟩ := hrs a ha
    exact ⟨r, h1.same s5, h2⟩
  intro σ' H1 hP
  obtain ⟨_, s1, rs, eR, hlr, hrs⟩ := hP
  rw [hlm, hl] at hlr
  have el1 := s1 _ _ el
  walk_at "vs"
  intro D2 hD2
  refine comp_list (xs := as.map V.ref) (fun i σ' H' => (∃ t u, σ' = [t, u]) ∧ Same H1 H' ∧ ∃ ns : List Int, H' D2 = some (.lst (ns.map V.int)) ∧ ns.length = i ∧ ∀ x ∈ ns, -100 ≤ x ∧ x ≤ 100) ?_ ?_ ?_ ?_
  · exact ⟨⟨none, none, rfl⟩, same_new _ hD2, [], upd_same, rfl, by simp⟩
  · intro i σ' H' _ hP
    exact SqL.of (hP.2.1 _ _ el1)
  · intro i x σ' H' hx hP
    obtain ⟨⟨t, u, rfl⟩, hs, ns, eD, hln, hns⟩ := hP
    have hi : i < (as.map V.ref).length := (List.getElem?_eq_some_iff.mp hx).1
    obtain ⟨b, hb, rfl⟩ := ref_at hx
    obtain ⟨pb, hpb, eb⟩ := hR.get i b hb
    have eb' := hs _ _ (s1 _ _ eb)
    have hpo := hok pb (List.mem_of_getElem? hpb)
    have hz : (ns.map V.int).length < sizeLine := by
      rw [List.length_map]; exact small1000 (by omega)
    walk_at "vs"
    refine ⟨⟨_, _, rfl⟩, same_updN _ hD2 hs, ns ++ [pb.2], by rw [upd_same, List.map_append]; rfl, by rw [List.length_append, hln]; rfl, fun x hx => ?_⟩
    rcases List.mem_append.mp hx with z | z
    · exact hns x z
    · have : x = pb.2 := by simpa using z
      rw [this]; exact ⟨hpo.2.1, hpo.2.2⟩
  intro σ'' H2 hP
  obtain ⟨_, s2, ns, eN, hln, hns⟩ := hP
  obtain ⟨hfit, hsum⟩ := fits100 hns (by omega)
  have eR2 := s2 _ _ eR
  walk_at "vs"
  intro p3 hp3
  have s3 := same_new (.tup [V.str "number", V.int (wo - ns.sum)]) hp3
  have eR3 := s3 _ _ eR2
  have hz3 : (rs.map V.ref).length < sizeLine := by rw [List.length_map]; exact small1000 (by omega)
  walk_at "vs"
  have row0 := Row.add (r := .num (wo - ns.sum)) (d := 1) (x := p3) eR3 hlr (fun a ha => (hrs a ha).imp fun r h => ⟨h.1.same (s2.trans s3), h.2⟩) (.num upd_same) (show (wo - ns.sum).natAbs < 10 ^ 40 by omega) (Nat.le_refl _)
  have s4 : Same H (upd (upd H2 p3 (.tup [V.str "number", V.int (wo - ns.sum)])) D (.lst (rs.map V.ref ++ [V.ref p3]))) := same_updN _ hD (s1.trans (s2.trans s3))
  generalize upd (upd H2 p3 (.tup [V.str "number", V.int (wo - ns.sum)])) D (.lst (rs.map V.ref ++ [V.ref p3])) = H4 at *
  refine ⟨fun m σ H1 => ∃ p d t, σ = [some (.ref l), some (.int wo), some (.ref p), t] ∧ Same H H1 ∧ Row H1 p m d ∧ 1 ≤ m ∧ LC m d,
    ⟨ps.length + 1, D, 1, _, rfl, s4, row0, by omega, .inl ⟨by omega, rfl⟩⟩, ?_⟩
  clear s4 row0 eR3 s3 hz3 eR2 hfit hsum hns eN s2 el1 hrs eR s1 hD hD2 hp3 hln hlr el hR
  rintro m σ H1 ⟨p, d, t0, rfl, s0, ⟨xs, e, el, hall⟩, h1, hLC⟩
  have hlm : (xs.map V.ref).length = xs.length := List.length_map _
  have hle := hLC.le
  walk_at "vs"
  refine ite2 (fun c1 => ?_) (fun c1 => ?_)
  · have c1' : 1 < ((xs.map V.ref).length : Int) := by simpa using c1
    have h7 := hLC.le7 (by omega)
    refine ⟨fun σ' H' => ∃ p' t, σ' = [some (.ref l), some (.int wo), some (.ref p'), t] ∧ Same H H' ∧ Row H' p' ((m + 1) / 2) (d + 1), ?_, ?_⟩
    · rintro σ' H' ⟨p', t, rfl, s', r'⟩
      exact ⟨(m + 1) / 2, by omega, p', d + 1, t, rfl, s', r', by omega, hLC.next (by omega)⟩
    · walk_at "vs"
      intro D2 hD2
      have hrn : rngN 0 (((xs.map V.ref).length : Int) - 1) 2 = m / 2 := by rw [hlm, el]; exact rngH (by omega)
      refine comp_range3 (fun i σ' H' => (∃ t, σ' = t :: [some (.ref p)]) ∧ Same H1 H' ∧ Row H' D2 i (d + 1)) ?_ ?_ ?_
      · exact ⟨⟨none, rfl⟩, same_new _ hD2, [], upd_same, rfl, by simp⟩
      · intro i σ' H' hi hP
        obtain ⟨⟨t, rfl⟩, hs', qs, e', el', hall'⟩ := hP
        rw [hrn] at hi
        have ep := hs' _ _ e
        have hz : (qs.map V.ref).length < sizeLine := by rw [List.length_map]; exact small1000 (by omega)
        have g1 : xs[2 * i]? = some (xs[2 * i]'(by omega)) := List.getElem?_eq_getElem _
        have g2 : xs[2 * i + 1]? = some (xs[2 * i + 1]'(by omega)) := List.getElem?_eq_getElem _
        have a1 : atI (xs.map V.ref) (0 + (i : Int) * 2) = some (.ref (xs[2 * i]'(by omega))) := by
          rw [show (0 + (i : Int) * 2) = ((2 * i : Nat) : Int) by omega]
          exact atI_nat (by rw [List.getElem?_map, g1]; rfl)
        have a2 : atI (xs.map V.ref) (0 + (i : Int) * 2 + 1) = some (.ref (xs[2 * i + 1]'(by omega))) := by
          rw [show (0 + (i : Int) * 2 + 1) = ((2 * i + 1 : Nat) : Int) by omega]
          exact atI_nat (by rw [List.getElem?_map, g2]; rfl)
        obtain ⟨x, hx1, hx2, hx3⟩ := hall _ (List.mem_of_getElem? g1)
        obtain ⟨y, hy1, hy2, hy3⟩ := hall _ (List.mem_of_getElem? g2)
        generalize xs[2 * i]'(by omega) = b1 at *
        generalize xs[2 * i + 1]'(by omega) = b2 at *
        walk_at "vs"
        intro p5 hp5
        have s5 := same_new (.tup [V.str "plus", V.ref b1, V.ref b2]) hp5
        have eD5 := s5 _ _ e'
        refine ⟨_, eD5, hz, ⟨_, rfl⟩, same_updN _ hD2 (hs'.trans s5), ?_⟩
        exact Row.add (r := .bin .plus x y) eD5 el' (fun a ha => (hall' a ha).imp fun r h => ⟨h.1.same s5, h.2⟩) (.bin (op := .plus) upd_same (hx1.same (hs'.trans s5)) (hy1.same (hs'.trans s5))) ⟨hx2, hy2⟩ (by show max x.depth y.depth + 1 ≤ d + 1; omega)
      · intro σ' H' hP
        obtain ⟨_, hs', qs, e', el', hall'⟩ := hP
        rw [hrn] at el'
        have ep := hs' _ _ e
        have hlq : (qs.map V.ref).length = m / 2 := by rw [List.length_map]; exact el'
        have hdiv : ((qs.map V.ref).length : Int) * 2 = ((2 * (m / 2) : Nat) : Int) := by rw [hlq]; omega
        have hmul : CMul ((qs.map V.ref).length : Int) 2 := .inr ⟨by decide, by decide⟩
        walk_at "vs"
        intro p6 hp6
        rw [hdiv, cut_from', ← List.map_drop]
        have s6 := same_new (.lst ((xs.drop (2 * (m / 2))).map V.ref)) hp6
        have e6 := s6 _ _ e'
        have ep6 : upd H' p6 (.lst ((xs.drop (2 * (m / 2))).map V.ref)) p6 = some (.lst ((xs.drop (2 * (m / 2))).map V.ref)) := upd_same
        generalize upd H' p6 (.lst ((xs.drop (2 * (m / 2))).map V.ref)) = H6 at *
        have hrl : (xs.drop (2 * (m / 2))).length = m - 2 * (m / 2) := by rw [List.length_drop, el]
        have hzc : (qs.map V.ref).length + ((xs.drop (2 * (m / 2))).map V.ref).length ≤ sizeLine := by rw [List.length_map, List.length_map, el', hrl, sizeLine_eq]; omega
        walk_at "vs"
        intro p7 hp7
        have s7 := same_new (.lst (qs.map V.ref ++ (xs.drop (2 * (m / 2))).map V.ref)) hp7
        refine ⟨p7, _, rfl, s0.trans (hs'.trans (s6.trans s7)), qs ++ xs.drop (2 * (m / 2)), by rw [upd_same, List.map_append], by rw [List.length_append, el', hrl]; omega, fun a ha => ?_⟩
        rcases List.mem_append.mp ha with z | z
        · exact (hall' a z).imp fun r h => ⟨h.1.same (s6.trans s7), h.2⟩
        · exact (hall a (List.mem_of_mem_drop z)).imp fun r h => ⟨h.1.same (hs'.trans (s6.trans s7)), h.2.1, by omega⟩
  · have c1' : ¬ 1 < ((xs.map V.ref).length : Int) := by simpa using c1
    rcases xs with _ | ⟨x, _ | ⟨x2, xs⟩⟩
    · simp at el; omega
    · obtain ⟨r, hr1, hr2, hr3⟩ := hall x (by simp)
      have at0 : atI ([x].map V.ref) 0 = some (.ref x) := atI_nat (j := 0) rfl
      walk_at "vs"
      exact q x r H1 s0 hr1 hr2 (by omega)
    · simp at c1'; omega
end

local macro_rules | `(tactic| walk_at "side") => `(tactic| first | exact ClV.own _ | exact ClV.ty _)
section
variable {P : Program} {w : World} {K : PySem.W.Frag} {mg : Str → Option Value} {base : Heap}
theorem nn_ValueError : ("ValueError" : Str) ≠ "__name__" := by decide +kernel
theorem datVs_bls {K : PySem.W.Frag} {H : Hp} : ∀ bs : List Bool, DatVs K H (bs.map V.bl) (bs.map PyData.bool)
  | [] => .nil
  | b :: bs => .cons (.bl b) (datVs_bls bs)
noncomputable def spLRef : Sp := fun vs H Q _ => ∃ (a : Addr) (k : Int) (as : List Addr) (ps : List Rdp), vs = [.ref a, .int k] ∧ RecAt H a as ps ∧ ¬ (0 ≤ k ∧ k < (ps.length : Int)) ∧ ∀ H', Same H H' → Q (.bl true) H'
noncomputable abbrev s_law_refused : Stmt := top 43
theorem sc_law_refused : FnScope ["record", "k", "kinds", "e"] ["record", "k"] (defScope s_law_refused) := ⟨rfl, rfl, rfl, by decide +kernel, rfl, by decide +kernel, by decide +kernel⟩
theorem lo_law_refused_kinds : Loc (defScope s_law_refused) "kinds" := by decide +kernel
theorem gl_law_refused_twin_of : (defScope s_law_refused).names.lookup ("twin_of" : Str) = some NameKind.globalImplicit := by decide +kernel
theorem vo_law_refused_k : VarOk (defScope s_law_refused) "k" := by decide +kernel
theorem vo_law_refused_record : VarOk (defScope s_law_refused) "record" := by decide +kernel
theorem db_law_refused_twin_of : (("twin_of" : Str) == ("__debug__" : Str)) = false := by decide +kernel
theorem ll_law_refused_e : (defScope s_law_refused).names.lookup ("e" : Str) = some NameKind.local := by decide +kernel
theorem gl_law_refused_MadeError : (defScope s_law_refused).names.lookup ("MadeError" : Str) = some NameKind.globalImplicit := by decide +kernel
theorem gl_law_refused_isinstance : (defScope s_law_refused).names.lookup ("isinstance" : Str) = some NameKind.globalImplicit := by decide +kernel
theorem gl_law_refused_Ring : (defScope s_law_refused).names.lookup ("Ring" : Str) = some NameKind.globalImplicit := by decide +kernel
theorem db_law_refused_Ring : (("Ring" : Str) == ("__debug__" : Str)) = false := by decide +kernel
theorem vo_law_refused_e : VarOk (defScope s_law_refused) "e" := by decide +kernel
theorem nn_law_refused_isinstance : ("isinstance" : Str) ≠ "__name__" := by decide +kernel
theorem db_law_refused_isinstance : (("isinstance" : Str) == ("__debug__" : Str)) = false := by decide +kernel
theorem gl_law_refused_NoName : (defScope s_law_refused).names.lookup ("NoName" : Str) = some NameKind.globalImplicit := by decide +kernel
theorem db_law_refused_NoName : (("NoName" : Str) == ("__debug__" : Str)) = false := by decide +kernel
theorem gl_law_refused_ValueError : (defScope s_law_refused).names.lookup ("ValueError" : Str) = some NameKind.globalImplicit := by decide +kernel
theorem db_law_refused_ValueError : (("ValueError" : Str) == ("__debug__" : Str)) = false := by decide +kernel
theorem gl_law_refused_NoRead : (defScope s_law_refused).names.lookup ("NoRead" : Str) = some NameKind.globalImplicit := by decide +kernel
theorem db_law_refused_NoRead : (("NoRead" : Str) == ("__debug__" : Str)) = false := by decide +kernel
theorem vo_law_refused_kinds : VarOk (defScope s_law_refused) "kinds" := by decide +kernel
theorem gl_law_refused_NoDeed : (defScope s_law_refused).names.lookup ("NoDeed" : Str) = some NameKind.globalImplicit := by decide +kernel
theorem db_law_refused_NoDeed : (("NoDeed" : Str) == ("__debug__" : Str)) = false := by decide +kernel
theorem gl_law_refused_NoRecord : (defScope s_law_refused).names.lookup ("NoRecord" : Str) = some NameKind.globalImplicit := by decide +kernel
theorem db_law_refused_NoRecord : (("NoRecord" : Str) == ("__debug__" : Str)) = false := by decide +kernel
theorem gl_law_refused_NoRow : (defScope s_law_refused).names.lookup ("NoRow" : Str) = some NameKind.globalImplicit := by decide +kernel
theorem db_law_refused_NoRow : (("NoRow" : Str) == ("__debug__" : Str)) = false := by decide +kernel
theorem gl_law_refused_NoText : (defScope s_law_refused).names.lookup ("NoText" : Str) = some NameKind.globalImplicit := by decide +kernel
theorem db_law_refused_NoText : (("NoText" : Str) == ("__debug__" : Str)) = false := by decide +kernel
theorem db_law_refused_MadeError : (("MadeError" : Str) == ("__debug__" : Str)) = false := by decide +kernel
theorem ok_law_refused {f g CM CT CD CN CR1 CR2 CR3 CR4 : Addr} {fd gd : FuncData} (T_law_refused : FnT K mg "_law_refused" s_law_refused ["record", "k"] f fd)
    (T_twin_of : FnT K mg "twin_of" s_twin_of ["record", "k"] g gd) (G_twin_of : FnOk P w K mg base (CXx P w) 6 g gd ["record", "k"] (spTwin CR1))
    (T : Blt mg) (xk : ExK K CR1) (zVE : mg "ValueError" = none) (mMadeError : mg "MadeError" = some (.ref CM)) (mNoText : mg "NoText" = some (.ref CT)) (mNoDeed : mg "NoDeed" = some (.ref CD)) (mNoName : mg "NoName" = some (.ref CN))
    (mNoRead : mg "NoRead" = some (.ref CR1)) (mNoRecord : mg "NoRecord" = some (.ref CR2)) (mNoRow : mg "NoRow" = some (.ref CR3)) (mRing : mg "Ring" = some (.ref CR4))
    (x1 : PySem.W.exmOne K (.ref CR1) (.ref CM) = some true) (x2 : PySem.W.kitOne K (.ref CR1) (.ref CR1) = some true) (x3 : PySem.W.kitOne K (.ref CR1) (.type "ValueError") = some true)
    (x4 : PySem.W.kitOne K (.ref CR1) (.ref CN) = some false) (x5 : PySem.W.kitOne K (.ref CR1) (.ref CR4) = some false) (x6 : PySem.W.kitOne K (.ref CR1) (.ref CT) = some false)
    (x7 : PySem.W.kitOne K (.ref CR1) (.ref CR3) = some false) (x8 : PySem.W.kitOne K (.ref CR1) (.ref CR2) = some false) (x9 : PySem.W.kitOne K (.ref CR1) (.ref CD) = some false) : FnOk P w K mg base CX0 7 f fd ["record", "k"] spLRef := by
  refine T_law_refused.F.okQ sc_law_refused (fun vs H Q E h => ?_) (fun cdv A outer s H vs Q E hr h => ?_)
  · obtain ⟨a, k, as, ps, rfl, _⟩ := h
    rfl
  obtain ⟨a, k, as, ps, rfl, hrec, hk, q⟩ := h
  refine ⟨_, (qss_cons (qs_set (i := 2) sc_law_refused.nd rfl lo_law_refused_kinds (qe_lst qa_nil))
    (qss_cons (qs_try_as (i := 3) rfl rfl rfl sc_law_refused.nd rfl ll_law_refused_e gl_law_refused_MadeError mMadeError (fun pn xe E hX => (qss_one (qs_expr (qe_callX (G_twin_of.mono (by omega)) hr gl_law_refused_twin_of T_twin_of.m T_twin_of.F.kp T_twin_of.b .nil hX (qa_N (qe_var 0 vo_law_refused_record) (qa_N (qe_var 1 vo_law_refused_k) qa_nil)) db_law_refused_twin_of)))) (fun e => (qss_cons (qs_set (i := 2) sc_law_refused.nd rfl lo_law_refused_kinds (qe_lst (qa_F (qe_callB (qc_isiEK (K := K) rfl) gl_law_refused_isinstance T.b_isinstance bt_isinstance (qa_N (qe_var 3 vo_law_refused_e) (qa_N (qe_glob (v := .ref CR1) gl_law_refused_NoRead mNoRead rfl db_law_refused_NoRead) qa_nil)) nn_law_refused_isinstance db_law_refused_isinstance) (qa_F (qe_callB (qc_isiEK (K := K) rfl) gl_law_refused_isinstance T.b_isinstance bt_isinstance (qa_N (qe_var 3 vo_law_refused_e) (qa_N (qe_bltn (v := .ty "ValueError") gl_law_refused_ValueError zVE bt_ValueError rfl nn_ValueError db_law_refused_ValueError) qa_nil)) nn_law_refused_isinstance db_law_refused_isinstance) (qa_F (qe_callB (qc_isiEK (K := K) rfl) gl_law_refused_isinstance T.b_isinstance bt_isinstance (qa_N (qe_var 3 vo_law_refused_e) (qa_N (qe_glob (v := .ref CN) gl_law_refused_NoName mNoName rfl db_law_refused_NoName) qa_nil)) nn_law_refused_isinstance db_law_refused_isinstance) (qa_F (qe_callB (qc_isiEK (K := K) rfl) gl_law_refused_isinstance T.b_isinstance bt_isinstance (qa_N (qe_var 3 vo_law_refused_e) (qa_N (qe_glob (v := .ref CR4) gl_law_refused_Ring mRing rfl db_law_refused_Ring) qa_nil)) nn_law_refused_isinstance db_law_refused_isinstance) qa_nil))))))
    (qss_one (qs_set (i := 2) sc_law_refused.nd rfl lo_law_refused_kinds (qe_op qop_cat (qe_var 2 vo_law_refused_kinds) (qe_lst (qa_F (qe_callB (qc_isiEK (K := K) rfl) gl_law_refused_isinstance T.b_isinstance bt_isinstance (qa_N (qe_var 3 vo_law_refused_e) (qa_N (qe_glob (v := .ref CT) gl_law_refused_NoText mNoText rfl db_law_refused_NoText) qa_nil)) nn_law_refused_isinstance db_law_refused_isinstance) (qa_F (qe_callB (qc_isiEK (K := K) rfl) gl_law_refused_isinstance T.b_isinstance bt_isinstance (qa_N (qe_var 3 vo_law_refused_e) (qa_N (qe_glob (v := .ref CR3) gl_law_refused_NoRow mNoRow rfl db_law_refused_NoRow) qa_nil)) nn_law_refused_isinstance db_law_refused_isinstance) (qa_F (qe_callB (qc_isiEK (K := K) rfl) gl_law_refused_isinstance T.b_isinstance bt_isinstance (qa_N (qe_var 3 vo_law_refused_e) (qa_N (qe_glob (v := .ref CR2) gl_law_refused_NoRecord mNoRecord rfl db_law_refused_NoRecord) qa_nil)) nn_law_refused_isinstance db_law_refused_isinstance) (qa_F (qe_callB (qc_isiEK (K := K) rfl) gl_law_refused_isinstance T.b_isinstance bt_isinstance (qa_N (qe_var 3 vo_law_refused_e) (qa_N (qe_glob (v := .ref CD) gl_law_refused_NoDeed mNoDeed rfl db_law_refused_NoDeed) qa_nil)) nn_law_refused_isinstance db_law_refused_isinstance) qa_nil)))))))))) db_law_refused_MadeError)
    (qss_one (qs_ret (qe_cmp (qop_eqSame hr.units) (qe_var 2 vo_law_refused_kinds) (qe_op qop_cat (qe_lst (qa_C qe_bl (qa_C qe_bl qa_nil))) (qe_op qop_rep (qe_lst (qa_C qe_bl qa_nil)) qe_int)) (nomarkQ _)))))), ?_⟩
  walk_at "vs"
  intro p0 hp0
  have s0 := same_new (.lst []) hp0
  have hrec0 := hrec.same s0
  generalize upd H p0 (.lst []) = H0 at *
  walk_at "vs"
  rw [if_neg hk]
  intro H1 s1
  refine ⟨x1, fun p hp => ?_⟩
  have S1 := s0.trans (s1.trans (same_new (excO (.ref CR1) p) hp))
  have ep : upd H1 p (excO (.ref CR1) p) p = some (excO (.ref CR1) p) := upd_same
  generalize upd H1 p (excO (.ref CR1) p) = H2 at *
  walk_at "vs"
  intro p3 hp3
  have s3 := same_new (.lst [V.bl true, V.bl true, V.bl false, V.bl false]) hp3
  have e3 : upd H2 p3 (.lst [V.bl true, V.bl true, V.bl false, V.bl false]) p3 = some (.lst [V.bl true, V.bl true, V.bl false, V.bl false]) := upd_same
  have ep3 := s3 _ _ ep
  generalize upd H2 p3 (.lst [V.bl true, V.bl true, V.bl false, V.bl false]) = H3 at *
  walk_at "vs"
  intro p4 hp4
  have s4 := same_new (.lst [V.bl false, V.bl false, V.bl false, V.bl false]) hp4
  have e4 : upd H3 p4 (.lst [V.bl false, V.bl false, V.bl false, V.bl false]) p4 = some (.lst [V.bl false, V.bl false, V.bl false, V.bl false]) := upd_same
  have e34 := s4 _ _ e3
  generalize upd H3 p4 (.lst [V.bl false, V.bl false, V.bl false, V.bl false]) = H4 at *
  walk_at "vs"
  intro p5 hp5
  have s5 := same_new (.lst (([true, true, false, false, false, false, false, false] : List Bool).map V.bl)) hp5
  have e5 : upd H4 p5 (.lst (([true, true, false, false, false, false, false, false] : List Bool).map V.bl)) p5 = some (.lst (([true, true, false, false, false, false, false, false] : List Bool).map V.bl)) := upd_same
  rw [show [V.bl true, V.bl true, V.bl false, V.bl false] ++ [V.bl false, V.bl false, V.bl false, V.bl false] = ([true, true, false, false, false, false, false, false] : List Bool).map V.bl from rfl]
  generalize upd H4 p5 (.lst (([true, true, false, false, false, false, false, false] : List Bool).map V.bl)) = H5 at *
  walk_at "vs"
  intro p6 hp6
  walk_at "vs"
  intro p7 hp7
  have s6 := same_new (.lst [V.bl true, V.bl true]) hp6
  have s7 := same_new (.lst [V.bl false]) hp7
  have e67 := s7 _ _ (upd_same (H := H5) (a := p6) (o := .lst [V.bl true, V.bl true]))
  have e7 : upd (upd H5 p6 (.lst [V.bl true, V.bl true])) p7 (.lst [V.bl false]) p7 = some (.lst [V.bl false]) := upd_same
  have e57 := (s6.trans s7) _ _ e5
  have s67 := s6.trans s7
  generalize upd (upd H5 p6 (.lst [V.bl true, V.bl true])) p7 (.lst [V.bl false]) = H7 at *
  refine ⟨p7, 6, [V.bl false], rfl, rfl, e7, by decide, by decide, by rw [sizeLine_eq]; decide, fun p8 hp8 => ?_⟩
  rw [show (List.replicate (6 : Int).toNat [V.bl false]).flatten = ([false, false, false, false, false, false] : List Bool).map V.bl from rfl]
  have s8 := same_new (.lst (([false, false, false, false, false, false] : List Bool).map V.bl)) hp8
  have e8 : upd H7 p8 (.lst (([false, false, false, false, false, false] : List Bool).map V.bl)) p8 = some (.lst (([false, false, false, false, false, false] : List Bool).map V.bl)) := upd_same
  have e68 := s8 _ _ e67
  have e58 := s8 _ _ e57
  generalize upd H7 p8 (.lst (([false, false, false, false, false, false] : List Bool).map V.bl)) = H8 at *
  have hz8 : [V.bl true, V.bl true].length + (([false, false, false, false, false, false] : List Bool).map V.bl).length ≤ sizeLine := by rw [sizeLine_eq]; decide
  walk_at "vs"
  intro p9 hp9
  rw [show [V.bl true, V.bl true] ++ ([false, false, false, false, false, false] : List Bool).map V.bl = ([true, true, false, false, false, false, false, false] : List Bool).map V.bl from rfl]
  have s9 := same_new (.lst (([true, true, false, false, false, false, false, false] : List Bool).map V.bl)) hp9
  refine ⟨_, .lst (SqL.of (s9 _ _ e58)) (datVs_bls _), .lst (SqL.of upd_same) (datVs_bls _), by decide +kernel, ?_⟩
  exact q _ (S1.trans (s3.trans (s4.trans (s5.trans (s67.trans (s8.trans s9))))))
end

section
variable {P : Program} {w : World} {K : PySem.W.Frag} {mg : Str → Option Value} {base : Heap}
theorem IsRds.datVs {K : PySem.W.Frag} {H : Hp} : ∀ {as : List Addr} {ps : List Rdp}, IsRds H as ps → DatVs K H (as.map V.ref) (ps.map fun p => PyData.tuple [.str p.1, .int p.2])
  | _, _, .nil => .nil
  | _, _, .cons h t => .cons (.tup (SqT.of h) (.cons (.str _) (.cons (.int _) .nil))) (IsRds.datVs t)
theorem lay_rds : ∀ ps : List Rdp, (∀ p ∈ ps, RdOk p) → PyData.canLayAll0 (ps.map fun p => PyData.tuple [.str p.1, .int p.2]) = true ∧ PyData.depthAll (ps.map fun p => PyData.tuple [.str p.1, .int p.2]) ≤ 4
  | [], _ => ⟨rfl, by decide⟩
  | p :: r, h => by
    obtain ⟨h1, h2⟩ := lay_rds r fun y hy => h y (List.mem_cons_of_mem _ hy)
    have hs := strOk_name (h p List.mem_cons_self).1
    constructor
    · show ((PyData.strOk p.1 && (true && true)) && PyData.canLayAll0 _) = true
      rw [h1, hs]; rfl
    · simp only [List.map_cons, PyData.depthAll, PyData.depth]
      omega
theorem rec_shaped {r : R} {ps : List Rdp} {wo : Int} (hg : r.Good) (hd : r.depth ≤ 8) (hp : ∀ p ∈ ps, RdOk p) : SeqAt.shaped (.tuple [r.dat, .list (ps.map fun p => PyData.tuple [.str p.1, .int p.2]), .int wo]) = true := by
  obtain ⟨h1, h2⟩ := lay_rds ps hp
  show (PyData.canLay0 _ && decide (PyData.depth _ ≤ 64)) = true
  have e1 : PyData.canLay0 (.tuple [r.dat, .list (ps.map fun p => PyData.tuple [.str p.1, .int p.2]), .int wo]) = true := by
    show (r.dat.canLay0 && (PyData.canLayAll0 (ps.map fun p => PyData.tuple [.str p.1, .int p.2]) && (true && true))) = true
    rw [r.lay hg, h1]; rfl
  have e2 : PyData.depth (.tuple [r.dat, .list (ps.map fun p => PyData.tuple [.str p.1, .int p.2]), .int wo]) ≤ 64 := by
    have := r.dat_depth
    simp only [PyData.depth, PyData.depthAll]
    omega
  rw [e1, decide_eq_true e2]; rfl
theorem IsR.tyT {H : Hp} {a : Addr} {r : R} (h : IsR H a r) : TyOf K H (.ref a) (.type "tuple") := by
  cases h with
  | num e => exact .tup e
  | rd e => exact .tup e
  | bin e _ _ => exact .tup e
  | pick e _ _ _ => exact .tup e
  | cho e _ _ => exact .tup e
theorem with_key {c : TT} {t u : TS} {wi : TI} {g : TG} {tb : TS} {D : Ends} {σ : L2.St} {H : Hp} {i : Nat} {v : V} (G : Hp → Prop) (key : ∀ H', G H' → tFor wi g tb D (σ.set i (some v)) H')
    (h : (∀ H', G H' → tFor wi g tb D (σ.set i (some v)) H') → tSeq (tIfS c t u) (tFor wi g tb) D (σ.set i (some v)) H) : gName i v σ H ({ D with nx := tSeq (tIfS c t u) (tFor wi g tb) D } : Ends).nx := h key
noncomputable def nms29 : List Str := names26 ++ [("qz" : Str), "xz", "jz"]
noncomputable abbrev s_law : Stmt := top 44
theorem sc_law : FnScope ["script", "many", "names", "reads", "worth", "record", "handed", "k", "pool", "far", "number", "last"] ["script"] (defScope s_law) := ⟨rfl, rfl, rfl, by decide +kernel, rfl, by decide +kernel, by decide +kernel⟩
theorem lo_law_many : Loc (defScope s_law) "many" := by decide +kernel
theorem gl_law__law_cell_at : (defScope s_law).names.lookup ("_law_cell_at" : Str) = some NameKind.globalImplicit := by decide +kernel
theorem vo_law_script : VarOk (defScope s_law) "script" := by decide +kernel
theorem db_law__law_cell_at : (("_law_cell_at" : Str) == ("__debug__" : Str)) = false := by decide +kernel
theorem lo_law_names : Loc (defScope s_law) "names" := by decide +kernel
theorem gl_law_range : (defScope s_law).names.lookup ("range" : Str) = some NameKind.globalImplicit := by decide +kernel
theorem db_law__law_name : (("_law_name" : Str) == ("__debug__" : Str)) = false := by decide +kernel
theorem lo_law_reads : Loc (defScope s_law) "reads" := by decide +kernel
theorem vo_law_many : VarOk (defScope s_law) "many" := by decide +kernel
theorem lo_law_worth : Loc (defScope s_law) "worth" := by decide +kernel
theorem gl_law_sum : (defScope s_law).names.lookup ("sum" : Str) = some NameKind.globalImplicit := by decide +kernel
theorem vo_law_reads : VarOk (defScope s_law) "reads" := by decide +kernel
theorem nn_law_sum : ("sum" : Str) ≠ "__name__" := by decide +kernel
theorem db_law_sum : (("sum" : Str) == ("__debug__" : Str)) = false := by decide +kernel
theorem lo_law_record : Loc (defScope s_law) "record" := by decide +kernel
theorem vo_law_worth : VarOk (defScope s_law) "worth" := by decide +kernel
theorem gl_law__law_summed : (defScope s_law).names.lookup ("_law_summed" : Str) = some NameKind.globalImplicit := by decide +kernel
theorem db_law__law_summed : (("_law_summed" : Str) == ("__debug__" : Str)) = false := by decide +kernel
theorem lo_law_handed : Loc (defScope s_law) "handed" := by decide +kernel
theorem gl_law_list : (defScope s_law).names.lookup ("list" : Str) = some NameKind.globalImplicit := by decide +kernel
theorem nn_law_list : ("list" : Str) ≠ "__name__" := by decide +kernel
theorem db_law_list : (("list" : Str) == ("__debug__" : Str)) = false := by decide +kernel
theorem vo_law_record : VarOk (defScope s_law) "record" := by decide +kernel
theorem gl_law_max : (defScope s_law).names.lookup ("max" : Str) = some NameKind.globalImplicit := by decide +kernel
theorem gl_law_min : (defScope s_law).names.lookup ("min" : Str) = some NameKind.globalImplicit := by decide +kernel
theorem gl_law_len : (defScope s_law).names.lookup ("len" : Str) = some NameKind.globalImplicit := by decide +kernel
theorem nn_law_len : ("len" : Str) ≠ "__name__" := by decide +kernel
theorem db_law_len : (("len" : Str) == ("__debug__" : Str)) = false := by decide +kernel
theorem nn_law_min : ("min" : Str) ≠ "__name__" := by decide +kernel
theorem db_law_min : (("min" : Str) == ("__debug__" : Str)) = false := by decide +kernel
theorem nn_law_max : ("max" : Str) ≠ "__name__" := by decide +kernel
theorem db_law_max : (("max" : Str) == ("__debug__" : Str)) = false := by decide +kernel
theorem lo_law_k : Loc (defScope s_law) "k" := by decide +kernel
theorem lo_law_pool : Loc (defScope s_law) "pool" := by decide +kernel
theorem gl_law__law_pool : (defScope s_law).names.lookup ("_law_pool" : Str) = some NameKind.globalImplicit := by decide +kernel
theorem vo_law_k : VarOk (defScope s_law) "k" := by decide +kernel
theorem db_law__law_pool : (("_law_pool" : Str) == ("__debug__" : Str)) = false := by decide +kernel
theorem lo_law_far : Loc (defScope s_law) "far" := by decide +kernel
theorem gl_law__law_take : (defScope s_law).names.lookup ("_law_take" : Str) = some NameKind.globalImplicit := by decide +kernel
theorem vo_law_pool : VarOk (defScope s_law) "pool" := by decide +kernel
theorem db_law__law_take : (("_law_take" : Str) == ("__debug__" : Str)) = false := by decide +kernel
theorem lo_law_number : Loc (defScope s_law) "number" := by decide +kernel
theorem vo_law_far : VarOk (defScope s_law) "far" := by decide +kernel
theorem vo_law_number : VarOk (defScope s_law) "number" := by decide +kernel
theorem vo_law_handed : VarOk (defScope s_law) "handed" := by decide +kernel
theorem gl_law__law_refused : (defScope s_law).names.lookup ("_law_refused" : Str) = some NameKind.globalImplicit := by decide +kernel
theorem db_law__law_refused : (("_law_refused" : Str) == ("__debug__" : Str)) = false := by decide +kernel
theorem lo_law_last : Loc (defScope s_law) "last" := by decide +kernel
theorem gl_law_isinstance : (defScope s_law).names.lookup ("isinstance" : Str) = some NameKind.globalImplicit := by decide +kernel
theorem gl_law_tuple : (defScope s_law).names.lookup ("tuple" : Str) = some NameKind.globalImplicit := by decide +kernel
theorem nn_law_tuple : ("tuple" : Str) ≠ "__name__" := by decide +kernel
theorem db_law_tuple : (("tuple" : Str) == ("__debug__" : Str)) = false := by decide +kernel
theorem gl_law_twin_of : (defScope s_law).names.lookup ("twin_of" : Str) = some NameKind.globalImplicit := by decide +kernel
theorem vo_law_last : VarOk (defScope s_law) "last" := by decide +kernel
theorem db_law_twin_of : (("twin_of" : Str) == ("__debug__" : Str)) = false := by decide +kernel
theorem nn_law_isinstance : ("isinstance" : Str) ≠ "__name__" := by decide +kernel
theorem db_law_isinstance : (("isinstance" : Str) == ("__debug__" : Str)) = false := by decide +kernel
theorem ok_law {f g1 g2 g3 g4 g5 g6 g7 CE : Addr} {fd gd1 gd2 gd3 gd4 gd5 gd6 gd7 : FuncData} (T_law : FnT K mg "law" s_law ["script"] f fd)
    (T_law_cell_at : FnT K mg "_law_cell_at" s_law_cell_at ["script", "k"] g1 gd1) (G_law_cell_at : FnOk P w K mg base CX0 1 g1 gd1 ["script", "k"] (spCell K))
    (T_law_name : FnT K mg "_law_name" s_law_name ["k"] g2 gd2) (G_law_name : FnOk P w K mg base CX0 1 g2 gd2 ["k"] spLaName)
    (T_law_summed : FnT K mg "_law_summed" s_law_summed ["reads", "worth"] g3 gd3) (G_law_summed : FnOk P w K mg base CX0 1 g3 gd3 ["reads", "worth"] spLSum)
    (T_law_pool : FnT K mg "_law_pool" s_law_pool ["script", "k"] g4 gd4) (G_law_pool : FnOk P w K mg base CX0 2 g4 gd4 ["script", "k"] (spPool K))
    (T_law_take : FnT K mg "_law_take" s_law_take ["pool", "many"] g5 gd5) (G_law_take : FnOk P w K mg base CX0 1 g5 gd5 ["pool", "many"] spTake)
    (T_law_refused : FnT K mg "_law_refused" s_law_refused ["record", "k"] g6 gd6) (G_law_refused : FnOk P w K mg base CX0 7 g6 gd6 ["record", "k"] spLRef)
    (T_twin_of : FnT K mg "twin_of" s_twin_of ["record", "k"] g7 gd7) (G_twin_of : FnOk P w K mg base (CXx P w) 6 g7 gd7 ["record", "k"] (spTwin CE))
    (T : Blt mg) : FnOk P w K mg base CX0 8 f fd ["script"] (spLaw K) := by
  refine T_law.F.okQ sc_law (fun vs H Q E h => ?_) (fun cdv A outer s H vs Q E hr h => ?_)
  · obtain ⟨a, ns, rfl, _⟩ := h
    rfl
  obtain ⟨a, ns, rfl, hS, h63, q⟩ := h
  refine ⟨_, (qss_cons (qs_set (i := 1) sc_law.nd rfl lo_law_many (qe_op qop_mod (qe_op qop_fdiv (qe_call (G_law_cell_at.mono (by omega)) hr gl_law__law_cell_at T_law_cell_at.m T_law_cell_at.F.kp T_law_cell_at.b .nil pass0 (qa_N (qe_var 0 vo_law_script) (qa_C qe_int qa_nil)) db_law__law_cell_at) qe_int) qe_int))
    (qss_cons (qs_set (i := 2) sc_law.nd rfl lo_law_names (qe_op qop_cat (qe_comp rfl (n := 1) (fr := []) (N := ["k"]) (cs_mk (scX := defScope s_law) (NX := ["script", "many", "names", "reads", "worth", "record", "handed", "k", "pool", "far", "number", "last"]) rfl rfl (by decide +kernel)) (qi_range1 gl_law_range T.b_range (qa_C qe_int qa_nil)) (fun _ _ _ _ _ => (qgx (i := 0) (show List.Nodup (α := Str) ["k"] by decide) (locC (by decide +kernel)))) (fun _ _ _ _ _ => qi_nil) (fun _ _ _ _ _ => (qe_call (G_law_name.mono (by omega)) hr (glC (by decide +kernel)) T_law_name.m T_law_name.F.kp T_law_name.b .nil pass0 (qa_N (qe_var 0 (VarC.ok (by decide +kernel))) qa_nil) db_law__law_name))) (qe_lst (qa_C qe_str (qa_C qe_str (qa_C qe_str qa_nil))))))
    (qss_cons (qs_setcomp (i := 3) rfl sc_law.nd rfl lo_law_reads (n := 1) (fr := [2, 0]) (N := ["k", "names", "script"]) (cs_mk (scX := defScope s_law) (NX := ["script", "many", "names", "reads", "worth", "record", "handed", "k", "pool", "far", "number", "last"]) rfl rfl (by decide +kernel)) (qi_range1 gl_law_range T.b_range (qa_N (qe_var 1 vo_law_many) qa_nil)) (fun _ _ _ _ _ => (qgx (i := 0) (show List.Nodup (α := Str) ["k", "names", "script"] by decide) (locC (by decide +kernel)))) (fun _ _ _ _ _ => qi_nil) (fun _ _ _ _ _ => (qe_tup (qa_S (qe_ix (qix_listK (K := K) rfl) (qe_var 1 (VarC.ok (by decide +kernel))) (qe_var 0 (VarC.ok (by decide +kernel)))) (qa_B (qe_op qop_sub (qe_op qop_mod (qe_call (G_law_cell_at.mono (by omega)) hr (glC (by decide +kernel)) T_law_cell_at.m T_law_cell_at.F.kp T_law_cell_at.b .nil pass0 (qa_N (qe_var 2 (VarC.ok (by decide +kernel))) (qa_B (qe_op qop_add (qe_var 0 (VarC.ok (by decide +kernel))) qe_int) qa_nil)) db_law__law_cell_at) qe_int) qe_int) qa_nil)))) rfl)
    (qss_cons (qs_set (i := 4) sc_law.nd rfl lo_law_worth (qe_op qop_add (qe_callB (qc_sumL rfl) gl_law_sum T.b_sum bt_sum (qa_M (qe_comp rfl (n := 2) (fr := []) (N := ["name", "number"]) (cs_mk (scX := defScope s_law) (NX := ["script", "many", "names", "reads", "worth", "record", "handed", "k", "pool", "far", "number", "last"]) rfl rfl (by decide +kernel)) (qi_list (qe_var 3 vo_law_reads)) (fun _ _ _ _ _ => (qg_tupK (K := K) (n := 2) rfl rfl (qgs_cons (qgx (i := 0) (show List.Nodup (α := Str) ["name", "number"] by decide) (locC (by decide +kernel))) (qgs_cons (qgx (i := 1) (show List.Nodup (α := Str) ["name", "number"] by decide) (locC (by decide +kernel))) qgs_nil)))) (fun _ _ _ _ _ => qi_nil) (fun _ _ _ _ _ => (qe_var 1 (VarC.ok (by decide +kernel))))) qa_nil) nn_law_sum db_law_sum) qe_int))
    (qss_cons (qs_set (i := 5) sc_law.nd rfl lo_law_record (qe_tup (qa_F (qe_call (G_law_summed.mono (by omega)) hr gl_law__law_summed T_law_summed.m T_law_summed.F.kp T_law_summed.b .nil pass0 (qa_N (qe_var 3 vo_law_reads) (qa_N (qe_var 4 vo_law_worth) qa_nil)) db_law__law_summed) (qa_N (qe_var 3 vo_law_reads) (qa_N (qe_var 4 vo_law_worth) qa_nil)))))
    (qss_cons (qs_set (i := 6) sc_law.nd rfl lo_law_handed (qe_tup (qa_S (qe_ix qix_tup (qe_var 5 vo_law_record) qe_int) (qa_F (qe_callTy qc_list_of gl_law_list T.b_list bt_list (qa_N (qe_var 3 vo_law_reads) qa_nil) nn_law_list db_law_list) (qa_N (qe_var 4 vo_law_worth) qa_nil)))))
    (qss_cons (qs_for PassesOwn.never rfl (qi_range2 gl_law_range T.b_range (qa_C qe_int (qa_F (qe_callB (qc_max2 rfl) gl_law_max T.b_max bt_max (qa_C qe_int (qa_F (qe_callB (qc_min2 rfl) gl_law_min T.b_min bt_min (qa_F (qe_callB qc_len_seq gl_law_len T.b_len bt_len (qa_N (qe_var 0 vo_law_script) qa_nil) nn_law_len db_law_len) (qa_C qe_int qa_nil)) nn_law_min db_law_min) qa_nil)) nn_law_max db_law_max) qa_nil))) (qg_name (i := 7) sc_law.nd rfl lo_law_k) (qss_cons (qs_set (i := 8) sc_law.nd rfl lo_law_pool (qe_call (G_law_pool.mono (by omega)) hr gl_law__law_pool T_law_pool.m T_law_pool.F.kp T_law_pool.b .nil pass0 (qa_N (qe_var 0 vo_law_script) (qa_N (qe_var 7 vo_law_k) qa_nil)) db_law__law_pool))
    (qss_cons (qs_set (i := 9) sc_law.nd rfl lo_law_far (qe_call (G_law_take.mono (by omega)) hr gl_law__law_take T_law_take.m T_law_take.F.kp T_law_take.b .nil pass0 (qa_N (qe_var 8 vo_law_pool) (qa_B (qe_op qop_pow qe_int qe_int) qa_nil)) db_law__law_take))
    (qss_cons (qs_set (i := 10) sc_law.nd rfl lo_law_number (qe_ix qix_list (qe_lst (qa_N (qe_var 1 vo_law_many) (qa_B (qe_op qop_add (qe_var 1 vo_law_many) qe_int) (qa_U (qe_un qun_neg qe_int) (qa_B (qe_op qop_sub qe_int (qe_var 1 vo_law_many)) (qa_B (qe_op qop_sub (qe_un qun_neg qe_int) (qe_var 1 vo_law_many)) (qa_B (qe_op qop_add (qe_var 1 vo_law_many) (qe_var 9 vo_law_far)) (qa_B (qe_op qop_sub (qe_un qun_neg qe_int) (qe_var 9 vo_law_far)) qa_nil)))))))) (qe_call (G_law_take.mono (by omega)) hr gl_law__law_take T_law_take.m T_law_take.F.kp T_law_take.b .nil pass0 (qa_N (qe_var 8 vo_law_pool) (qa_C qe_int qa_nil)) db_law__law_take)))
    (qss_cons (qs_if (qt_w (qw_or (qt_cmp qop_lt (qe_var 10 vo_law_number) qe_int (nomarkQ _)) (qw_or1 (qt_cmp qop_ge (qe_var 10 vo_law_number) (qe_var 1 vo_law_many) (nomarkQ _))))) (qss_one (qs_if (qt_w (qw_or (qt_not (qt_val (qe_call (G_law_refused.mono (by omega)) hr gl_law__law_refused T_law_refused.m T_law_refused.F.kp T_law_refused.b .nil pass0 (qa_N (qe_var 6 vo_law_handed) (qa_N (qe_var 10 vo_law_number) qa_nil)) db_law__law_refused))) (qw_or1 (qt_cmp (qop_neSame hr.units) (qe_var 6 vo_law_handed) (qe_var 5 vo_law_record) (nomarkQ _))))) (qss_one (qs_ret qe_bl)) qss_nil)) qss_nil)
    (qss_one (qs_for PassesOwn.never rfl (qi_list (qe_lst (qa_C qe_int (qa_B (qe_op qop_sub (qe_var 1 vo_law_many) qe_int) qa_nil)))) (qg_name (i := 11) sc_law.nd rfl lo_law_last) (qss_one (qs_if (qt_w (qw_and (qt_cmp qop_gt (qe_var 1 vo_law_many) qe_int (nomarkQ _)) (qw_and1 (qt_not (qt_val (qe_callB qc_isi gl_law_isinstance T.b_isinstance bt_isinstance (qa_F (qe_callX (G_twin_of.mono (by omega)) hr gl_law_twin_of T_twin_of.m T_twin_of.F.kp T_twin_of.b .nil passF (qa_N (qe_var 6 vo_law_handed) (qa_N (qe_var 11 vo_law_last) qa_nil)) db_law_twin_of) (qa_N (qe_bltn (v := .ty "tuple") gl_law_tuple T.b_tuple bt_tuple rfl nn_law_tuple db_law_tuple) qa_nil)) nn_law_isinstance db_law_isinstance)))))) (qss_one (qs_ret qe_bl)) qss_nil)))))))))
    (qss_one (qs_ret (qe_cmp (qop_eqSame hr.units) (qe_var 6 vo_law_handed) (qe_var 5 vo_law_record) (nomarkQ _))))))))))), ?_⟩
  walk_at "vs"
  intro c0
  have hM0 : 0 ≤ c0 / 2 % 30 := Int.emod_nonneg _ (by decide)
  have hM1 : c0 / 2 % 30 < 30 := Int.emod_lt_of_pos _ (by decide)
  walk_at "vs"
  obtain ⟨m, em⟩ := Int.eq_ofNat_of_zero_le hM0
  have hm : m ≤ 29 := by omega
  dsimp only
  rw [em]
  clear em hM0 hM1
  intro D hD
  refine comp_range (fun i σ' H' => (∃ t, σ' = [t]) ∧ Same H H' ∧ H' D = some (.lst (((List.range i).map nameK).map V.str))) ?_ ?_ ?_
  · exact ⟨⟨none, rfl⟩, same_new _ hD, upd_same⟩
  · intro i σ' H' hi hP
    obtain ⟨⟨t, rfl⟩, hs, eD⟩ := hP
    have hi' : i < 26 := hi
    have hz : (((List.range i).map nameK).map V.str).length < sizeLine := by
      rw [List.length_map, List.length_map, List.length_range]; exact small1000 (by omega)
    refine ⟨_, rfl, i, by rw [show (0 + (i : Int)) = (i : Int) by omega]; rfl, by omega, _, eD, hz, ⟨_, rfl⟩, same_updN _ hD hs, ?_⟩
    rw [upd_same, List.range_succ, List.map_append, List.map_append]; rfl
  intro σ' H1 hP
  obtain ⟨_, s1, eD⟩ := hP
  have eD : H1 D = some (.lst (names26.map V.str)) := eD
  have hz1 : (names26.map V.str).length + [V.str "qz", V.str "xz", V.str "jz"].length ≤ sizeLine := Nat.le_of_lt (small1000 (by decide +kernel))
  walk_at "vs"
  intro p2 hp2
  have s2 := same_new (.lst [V.str "qz", V.str "xz", V.str "jz"]) hp2
  have eD2 := s2 _ _ eD
  have e2 : upd H1 p2 (.lst [V.str "qz", V.str "xz", V.str "jz"]) p2 = some (.lst [V.str "qz", V.str "xz", V.str "jz"]) := upd_same
  generalize upd H1 p2 (.lst [V.str "qz", V.str "xz", V.str "jz"]) = H2 at *
  walk_at "vs"
  intro p3 hp3
  have s3 := same_new (.lst (nms29.map V.str)) hp3
  rw [show names26.map V.str ++ [V.str "qz", V.str "xz", V.str "jz"] = nms29.map V.str from by unfold nms29; rw [List.map_append]; rfl]
  have e3 : upd H2 p3 (.lst (nms29.map V.str)) p3 = some (.lst (nms29.map V.str)) := upd_same
  generalize upd H2 p3 (.lst (nms29.map V.str)) = H3 at *
  have s03 := s1.trans (s2.trans s3)
  have hS3 := SqL.same s03 hS
  have hl29 : nms29.length = 29 := by decide +kernel
  have hg29 : ∀ x ∈ nms29, GName x := names26_good
  have hd29 : nms29.Nodup := names26_nodup
  clear eD eD2 e2 s1 s2 s3 hp2 hp3 hz1 hD
  generalize nms29 = NM at *
  iterate 2 walk_at "v"
  refine ⟨by omega, by omega, ?_⟩
  intro D4 hD4
  refine comp_range (fun i σ' H' => (∃ t, σ' = [t, some (.ref p3), some (.ref a)]) ∧ Same H3 H' ∧ ∃ as ps, H' D4 = some (.lst (as.map V.ref)) ∧ IsRds H' as ps ∧ ps.map (·.1) = NM.take i ∧ ∀ x ∈ ps, RdOk x) ?_ ?_ ?_
  · exact ⟨⟨none, rfl⟩, same_new _ hD4, [], [], upd_same, .nil, rfl, by simp⟩
  · intro i σ' H' hi hP
    obtain ⟨⟨t, rfl⟩, hs, as, ps, eD, hR, hnm, hok⟩ := hP
    have hi' : i < m := by
      have : i < (m : Int).toNat := hi
      omega
    have hln : as.length = (NM.take i).length := by rw [hR.length, ← hnm, List.length_map]
    rw [List.length_take] at hln
    have hz : (as.map V.ref).length < sizeLine := by
      rw [List.length_map]; exact small1000 (by omega)
    have e3' := hs _ _ e3
    have hS' := SqL.same hs hS3
    have gi : NM[i]? = some (NM[i]'(by omega)) := List.getElem?_eq_getElem _
    have ai : atI (NM.map V.str) (0 + (i : Int)) = some (.str (NM[i]'(by omega))) := by
      rw [show (0 + (i : Int)) = (i : Int) by omega]
      exact atI_nat (by rw [List.getElem?_map, gi]; rfl)
    generalize NM[i]'(by omega) = x at *
    walk_at "vs"
    intro n
    have n0 := Int.emod_nonneg n (show (100 : Int) ≠ 0 by decide)
    have n1 := Int.emod_lt_of_pos n (show (0 : Int) < 100 by decide)
    walk_at "vs"
    intro p5 hp5
    have s5 := same_new (.tup [V.str x, V.int (n % 100 - 50)]) hp5
    have eD5 := s5 _ _ eD
    refine ⟨_, eD5, hz, ⟨_, rfl⟩, same_updN _ hD4 (hs.trans s5), as ++ [p5], ps ++ [(x, n % 100 - 50)], by rw [upd_same, List.map_append]; rfl, (IsRds.snoc (p := (x, n % 100 - 50)) upd_same (hR.same s5)).tups (tups_set _ eD5), ?_, fun y hy => ?_⟩
    · rw [List.map_append, hnm, List.take_succ, gi]; rfl
    · rcases List.mem_append.mp hy with z | z
      · exact hok y z
      · have : y = (x, n % 100 - 50) := by simpa using z
        rw [this]
        exact ⟨hg29 x (List.mem_of_getElem? gi), by show -100 ≤ n % 100 - 50; omega, by show n % 100 - 50 ≤ 100; omega⟩
  intro σ' H4 hP
  obtain ⟨_, s4, as, ps, eR, hR, hnm, hok⟩ := hP
  have hnm : ps.map (·.1) = NM.take m := hnm
  have hlp : ps.length = m := by
    have := congrArg List.length hnm
    rw [List.length_map, List.length_take] at this
    omega
  have hnd : (ps.map (·.1)).Nodup := by rw [hnm]; exact hd29.sublist (List.take_sublist _ _)
  have hl := hR.length
  have hlm : (as.map V.ref).length = as.length := List.length_map _
  have hS4 := SqL.same s4 hS3
  clear hnm hg29 hd29 hl29 e3 hS3 hS s03 s4 hD4
  walk_at "vs"
  intro D5 hD5
  refine comp_list (xs := as.map V.ref) (fun i σ' H' => (∃ t u, σ' = [t, u]) ∧ Same H4 H' ∧ ∃ ns : List Int, H' D5 = some (.lst (ns.map V.int)) ∧ ns.length = i ∧ ∀ x ∈ ns, -100 ≤ x ∧ x ≤ 100) ?_ ?_ ?_ ?_
  · exact ⟨⟨none, none, rfl⟩, same_new _ hD5, [], upd_same, rfl, by simp⟩
  · intro i σ' H' _ hP
    exact SqL.of (hP.2.1 _ _ eR)
  · intro i x σ' H' hx hP
    obtain ⟨⟨t, u, rfl⟩, hs, ns, eD, hln, hns⟩ := hP
    have hi : i < (as.map V.ref).length := (List.getElem?_eq_some_iff.mp hx).1
    obtain ⟨b, hb, rfl⟩ := ref_at hx
    obtain ⟨pb, hpb, eb⟩ := hR.get i b hb
    have eb' := hs _ _ eb
    have hpo := hok pb (List.mem_of_getElem? hpb)
    have hz : (ns.map V.int).length < sizeLine := by
      rw [List.length_map]; exact small1000 (by omega)
    walk_at "vs"
    refine ⟨⟨_, _, rfl⟩, same_updN _ hD5 hs, ns ++ [pb.2], by rw [upd_same, List.map_append]; rfl, by rw [List.length_append, hln]; rfl, fun x hx => ?_⟩
    rcases List.mem_append.mp hx with z | z
    · exact hns x z
    · have : x = pb.2 := by simpa using z
      rw [this]; exact ⟨hpo.2.1, hpo.2.2⟩
  intro σ'' H5 hP
  obtain ⟨_, s5, zs, eZ, hlz, hzs⟩ := hP
  obtain ⟨hfit, hsum⟩ := fits100 hzs (by omega)
  have eR5 := s5 _ _ eR
  have hR5 := hR.same s5
  walk_at "vs"
  intro b r H6 s6 R6 g6 d6
  dsimp only
  have hwo1 : -1000000 ≤ zs.sum + 5 := by omega
  have hwo2 : zs.sum + 5 ≤ 1000000 := by omega
  generalize zs.sum + 5 = wo at *
  have eR6 := s6 _ _ eR5
  have hR6 := hR5.same s6
  have hS6 := SqL.same (s5.trans s6) hS4
  clear eR5 hR5 eR hR hS4 hfit hsum hzs eZ hlz s5 s6 hD5
  walk_at "vs"
  intro p7 hp7
  have s7 := same_new (.tup [V.ref b, V.ref D4, V.int wo]) hp7
  have e7 : upd H6 p7 (.tup [V.ref b, V.ref D4, V.int wo]) p7 = some (.tup [V.ref b, V.ref D4, V.int wo]) := upd_same
  have eR7 := s7 _ _ eR6
  have hR7 := hR6.same s7
  have hS7 := SqL.same s7 hS6
  have R7 := R6.same s7
  generalize upd H6 p7 (.tup [V.ref b, V.ref D4, V.int wo]) = H7 at *
  have at0 : atI [V.ref b, V.ref D4, V.int wo] 0 = some (.ref b) := atI_nat (j := 0) rfl
  walk_at "vs"
  intro l8 hl8
  walk_at "vs"
  intro p9 hp9
  have s8 := same_new (.lst (as.map V.ref)) hl8
  have s9 := same_new (.tup [V.ref b, V.ref l8, V.int wo]) hp9
  have s79 := s8.trans s9
  have e9 : upd (upd H7 l8 (.lst (as.map V.ref))) p9 (.tup [V.ref b, V.ref l8, V.int wo]) p9 = some (.tup [V.ref b, V.ref l8, V.int wo]) := upd_same
  have e8 := s9 l8 (.lst (as.map V.ref)) upd_same
  have eR9 := s79 _ _ eR7
  have e79 := s79 _ _ e7
  have hR9 := hR7.same s79
  have hS9 := SqL.same s79 hS7
  have R9 := R7.same s79
  generalize upd (upd H7 l8 (.lst (as.map V.ref))) p9 (.tup [V.ref b, V.ref l8, V.int wo]) = H9 at *
  have rec9 : RecAt H9 p9 as ps := ⟨_, l8, wo, e9, e8, hR9, by omega, hnd, hok, hwo1, hwo2⟩
  have shp := rec_shaped (ps := ps) (wo := wo) g6 d6 hok
  have dat : ∀ H', Same H9 H' → DatV K H' (.ref p9) (.tuple [r.dat, .list (ps.map fun p => PyData.tuple [.str p.1, .int p.2]), .int wo]) ∧ DatV K H' (.ref p7) (.tuple [r.dat, .list (ps.map fun p => PyData.tuple [.str p.1, .int p.2]), .int wo]) := fun H' s' =>
    ⟨.tup (SqT.of (s' _ _ e9)) (.cons (R9.same s').dat (.cons (.lst (SqL.of (s' _ _ e8)) (IsRds.datVs (hR9.same s'))) (.cons (.int _) .nil))),
     .tup (SqT.of (s' _ _ e79)) (.cons (R9.same s').dat (.cons (.lst (SqL.of (s' _ _ eR9)) (IsRds.datVs (hR9.same s'))) (.cons (.int _) .nil)))⟩
  clear e9 e8 eR9 e79 hR9 R9 s79 s8 s9 hS7 R7 hR7 eR7 e7 s7 hS6 hR6 eR6 R6 hp7 hl8 hp9 at0
  walk_at "vs"
  refine for_range (fun i σ H' => (∃ t7 t8 t9 t10 t11, σ = [some (.ref a), some (.int (m : Int)), some (.ref p3), some (.ref D4), some (.int wo), some (.ref p7), some (.ref p9), t7, t8, t9, t10, t11]) ∧ Same H9 H') ?_ ?_ ?_
  · exact ⟨⟨_, _, _, _, _, rfl⟩, Same.refl _⟩
  · intro i σ H' hi hP
    obtain ⟨⟨t7, t8, t9, t10, t11, rfl⟩, hs⟩ := hP
    have hlm2 : (ns.map V.int).length = ns.length := List.length_map _
    have hi' : i ≤ 90 := by
      have z : i < ((if (if (21 : Int) < ((ns.map V.int).length : Int) then 21 else ((ns.map V.int).length : Int)) > 2 then (if (21 : Int) < ((ns.map V.int).length : Int) then 21 else ((ns.map V.int).length : Int)) else 2) - 1).toNat := hi
      rw [hlm2] at z
      split at z <;> (try split at z) <;> omega
    have hS' := SqL.same hs hS9
    have k0 : 0 ≤ 1 + (i : Int) := by omega
    have k1 : 1 + (i : Int) ≤ 100 := by omega
    walk_at "vs"
    intro pl H10 s10 hpl pool10
    have cp : CPow 10 60 := ⟨by decide, by decide, by decide⟩
    have hpl9 : H9 pl = none := by
      cases z : H9 pl with
      | none => rfl
      | some o => rw [hs _ _ z] at hpl; cases hpl
    have S10 := hs.trans s10
    walk_at "vs"
    intro far H11 f0 f1 b11 pool11
    have S11 := but_same S10 (fun p hp => by have : p = pl := by simpa using hp
                                             rw [this]; exact hpl9) b11
    walk_at "vs"
    intro p12 hp12
    have s12 := same_new (.lst (([(m : Int), (m : Int) + 1, -1, 0 - (m : Int), -1 - (m : Int), (m : Int) + far, -1 - far] : List Int).map V.int)) hp12
    have S12 := S11.trans s12
    have e12 : upd H11 p12 (.lst (([(m : Int), (m : Int) + 1, -1, 0 - (m : Int), -1 - (m : Int), (m : Int) + far, -1 - far] : List Int).map V.int)) p12 = some (.lst (([(m : Int), (m : Int) + 1, -1, 0 - (m : Int), -1 - (m : Int), (m : Int) + far, -1 - far] : List Int).map V.int)) := upd_same
    have pool12 := pool11.same s12
    have hp12' : pl ≠ p12 := fun z => by
      obtain ⟨_, _, _, e, _⟩ := pool11
      rw [z, hp12] at e; cases e
    rw [show [V.int (m : Int), V.int ((m : Int) + 1), V.int (-1), V.int (0 - (m : Int)), V.int (-1 - (m : Int)), V.int ((m : Int) + far), V.int (-1 - far)] = ([(m : Int), (m : Int) + 1, -1, 0 - (m : Int), -1 - (m : Int), (m : Int) + far, -1 - far] : List Int).map V.int from rfl]
    generalize upd H11 p12 (.lst (([(m : Int), (m : Int) + 1, -1, 0 - (m : Int), -1 - (m : Int), (m : Int) + far, -1 - far] : List Int).map V.int)) = H12 at *
    walk_at "vs"
    intro n H14 n0 n1 b14 pool14
    have S14 := but_same S12 (fun p hp => by have : p = pl := by simpa using hp
                                             rw [this]; exact hpl9) b14
    have e14 := b14 _ _ (by simpa using Ne.symm hp12') e12
    obtain ⟨v, jv, hv, _⟩ := at_ok (xs := [(m : Int), (m : Int) + 1, -1, 0 - (m : Int), -1 - (m : Int), (m : Int) + far, -1 - far]) (i := n) n0 (by simpa using n1)
    refine ⟨p12, _, n, _, rfl, rfl, SqL.of e14, hv, ?_⟩
    refine with_key (G := fun H' => Same H9 H') (fun HX SX => ?_) (fun key => ?_)
    · clear e14 hv pool14 b14 n0 n1 S14 pool12 e12 S12 s12 pool11 b11 S11 f0 f1 pool10 S10 s10
      walk_at "vs"
      intro p16 hp16
      have S16 := SX.trans (same_new (.lst [V.int 0, V.int ((m : Int) - 1)]) hp16)
      have e16 : upd HX p16 (.lst [V.int 0, V.int ((m : Int) - 1)]) p16 = some (.lst [V.int 0, V.int ((m : Int) - 1)]) := upd_same
      generalize upd HX p16 (.lst [V.int 0, V.int ((m : Int) - 1)]) = H16 at *
      walk_at "vs"
      refine for_list (xs := [V.int 0, V.int ((m : Int) - 1)]) (fun j σ H' => (∃ t7 t8 t9 t10 t11, σ = [some (.ref a), some (.int (m : Int)), some (.ref p3), some (.ref D4), some (.int wo), some (.ref p7), some (.ref p9), t7, t8, t9, t10, t11]) ∧ Same H16 H') ?_ ?_ ?_ ?_
      · exact ⟨⟨_, _, _, _, _, rfl⟩, Same.refl _⟩
      · intro j σ H' _ hP
        exact SqL.of (hP.2 _ _ e16)
      · intro j x σ H' hx hP
        obtain ⟨⟨t7, t8, t9, t10, t11, rfl⟩, hs⟩ := hP
        obtain ⟨y, rfl, hy⟩ : ∃ y : Int, x = .int y ∧ (0 < m → 0 ≤ y ∧ y < (m : Int)) := by
          match j, hx with
          | 0, hx => cases hx; exact ⟨0, rfl, by omega⟩
          | 1, hx => cases hx; exact ⟨(m : Int) - 1, rfl, by omega⟩
        walk_at "vs"
        by_cases h0 : (0 : Int) < (m : Int)
        · refine itD_t h0 ?_
          walk_at "vs"
          first | refine ⟨p9, y, as, ps, rfl, rec9.same (S16.trans hs), ?_⟩ | refine ⟨rec9.same (S16.trans hs), ?_⟩
          rw [if_pos ⟨(hy (by omega)).1, by have := (hy (by omega)).2; omega⟩]
          intro b17 r17 H17 s17 R17
          have ty := R17.isTh (K := K)
          have ty1 : TyOf K H17 (.ref b17) (.type "tuple") := IsR.tyT R17
          walk_at "vs"
          first | exact ⟨⟨_, _, _, _, _, rfl⟩, hs.trans s17⟩ | exact hs.trans s17
        · refine itD_f h0 ?_
          walk_at "vs"
          first | exact ⟨⟨_, _, _, _, _, rfl⟩, hs⟩ | exact hs
      · intro σ H' hP
        obtain ⟨⟨t7, t8, t9, t10, t11, rfl⟩, hs⟩ := hP
        exact ⟨⟨_, _, _, _, _, rfl⟩, S16.trans hs⟩
    · walk_at "vs"
      by_cases h1 : v < 0
      · refine itD_t h1 ?_
        walk_at "vs"
        refine ⟨rec9.same S14, (fun z => by omega), fun H15 s15 => ?_⟩
        have S15 := S14.trans s15
        walk_at "vs"
        refine ⟨_, (dat H15 S15).1, (dat H15 S15).2, shp, _, rfl, ?_⟩
        exact key H15 S15
      · refine itD_f h1 ?_
        walk_at "vs"
        by_cases h2 : (m : Int) ≤ v
        · refine itD_t h2 ?_
          walk_at "vs"
          refine ⟨rec9.same S14, (fun z => by omega), fun H15 s15 => ?_⟩
          have S15 := S14.trans s15
          walk_at "vs"
          refine ⟨_, (dat H15 S15).1, (dat H15 S15).2, shp, _, rfl, ?_⟩
          exact key H15 S15
        · refine itD_f h2 ?_
          exact key H14 S14
  · intro σ H' hP
    obtain ⟨⟨t7, t8, t9, t10, t11, rfl⟩, hs⟩ := hP
    walk_at "vs"
    first | exact ⟨_, (dat H' hs).1, (dat H' hs).2, shp, q _⟩ | exact ⟨(dat H' hs).1, (dat H' hs).2, shp, q _⟩
end

theorem fnT_mk {K : PySem.W.Frag} {h : Heap} {mg : Str → Option Value} (X : K.In h) (G : h.Ns mainGlobals mg) {x : Str} {st : Stmt} {ps : List Str} {f : Addr} {oc : Value} {od an : Option Addr} {osl : Array (Option Value)} {kV doc pm cdv ct : Value}
    (a : PySem.W.nsIn K mainGlobals x = some (some (.ref f))) (l : K.lookup f = some ⟨oc, od, .func (PySem.W.fnOf x x (defArgs st) (defBody st) (defScope st) .none kV doc pm an cdv ct), osl⟩) (c : PySem.W.codeIn K cdv x = true) (k : PySem.W.keepIn K (.ref f) = true)
    (hb : ∀ us : List Value, us.length = ps.length → bindArgs (PySem.W.fnOf x x (defArgs st) (defBody st) (defScope st) .none kV doc pm an cdv ct) ⟨us, []⟩ = pure (ps.zip us)) :
    FnT K mg x st ps f (PySem.W.fnOf x x (defArgs st) (defBody st) (defScope st) .none kV doc pm an cdv ct) :=
  ⟨fun_mk l c k, Binds.all hb, PySem.W.mg_of X G a⟩


theorem all_mk {l : PySem.W.OpenLaw} {w : World} {K : PySem.W.Frag} {h : Heap} {mg : Str → Option Value} {fa f1 f2 f3 f4 f5 f6 f7 f8 f9 f10 f11 f12 f13 f14 f15 f16 f17 : Addr} (X : K.In h) (G : h.Ns mainGlobals mg) (hfa : mg "law" = some (.ref fa))
    {od1 an1 od2 an2 od3 an3 od4 an4 od5 an5 od6 an6 od7 an7 od8 an8 od9 an9 od10 an10 od11 an11 od12 an12 od13 an13 od14 an14 od15 an15 od16 an16 od17 an17 : Option Addr} {sl1 sl2 sl3 sl4 sl5 sl6 sl7 sl8 sl9 sl10 sl11 sl12 sl13 sl14 sl15 sl16 sl17 : Array (Option Value)} {oc1 kV1 dc1 pm1 cd1 ct1 oc2 kV2 dc2 pm2 cd2 ct2 oc3 kV3 dc3 pm3 cd3 ct3 oc4 kV4 dc4 pm4 cd4 ct4 oc5 kV5 dc5 pm5 cd5 ct5 oc6 kV6 dc6 pm6 cd6 ct6 oc7 kV7 dc7 pm7 cd7 ct7 oc8 kV8 dc8 pm8 cd8 ct8 oc9 kV9 dc9 pm9 cd9 ct9 oc10 kV10 dc10 pm10 cd10 ct10 oc11 kV11 dc11 pm11 cd11 ct11 oc12 kV12 dc12 pm12 cd12 ct12 oc13 kV13 dc13 pm13 cd13 ct13 oc14 kV14 dc14 pm14 cd14 ct14 oc15 kV15 dc15 pm15 cd15 ct15 oc16 kV16 dc16 pm16 cd16 ct16 oc17 kV17 dc17 pm17 cd17 ct17 : Value}
    (a1 : PySem.W.nsIn K mainGlobals "is_whole_number" = some (some (.ref f1))) (l1 : K.lookup f1 = some ⟨oc1, od1, .func (PySem.W.fnOf "is_whole_number" "is_whole_number" (defArgs s_is_whole_number) (defBody s_is_whole_number) (defScope s_is_whole_number) .none kV1 dc1 pm1 an1 cd1 ct1), sl1⟩) (c1 : PySem.W.codeIn K cd1 "is_whole_number" = true) (k1 : PySem.W.keepIn K (.ref f1) = true)
    (a2 : PySem.W.nsIn K mainGlobals "is_name" = some (some (.ref f2))) (l2 : K.lookup f2 = some ⟨oc2, od2, .func (PySem.W.fnOf "is_name" "is_name" (defArgs s_is_name) (defBody s_is_name) (defScope s_is_name) .none kV2 dc2 pm2 an2 cd2 ct2), sl2⟩) (c2 : PySem.W.codeIn K cd2 "is_name" = true) (k2 : PySem.W.keepIn K (.ref f2) = true)
    (a3 : PySem.W.nsIn K mainGlobals "is_choice" = some (some (.ref f3))) (l3 : K.lookup f3 = some ⟨oc3, od3, .func (PySem.W.fnOf "is_choice" "is_choice" (defArgs s_is_choice) (defBody s_is_choice) (defScope s_is_choice) .none kV3 dc3 pm3 an3 cd3 ct3), sl3⟩) (c3 : PySem.W.codeIn K cd3 "is_choice" = true) (k3 : PySem.W.keepIn K (.ref f3) = true)
    (a4 : PySem.W.nsIn K mainGlobals "has_shape" = some (some (.ref f4))) (l4 : K.lookup f4 = some ⟨oc4, od4, .func (PySem.W.fnOf "has_shape" "has_shape" (defArgs s_has_shape) (defBody s_has_shape) (defScope s_has_shape) .none kV4 dc4 pm4 an4 cd4 ct4), sl4⟩) (c4 : PySem.W.codeIn K cd4 "has_shape" = true) (k4 : PySem.W.keepIn K (.ref f4) = true)
    (a5 : PySem.W.nsIn K mainGlobals "recipes_within" = some (some (.ref f5))) (l5 : K.lookup f5 = some ⟨oc5, od5, .func (PySem.W.fnOf "recipes_within" "recipes_within" (defArgs s_recipes_within) (defBody s_recipes_within) (defScope s_recipes_within) .none kV5 dc5 pm5 an5 cd5 ct5), sl5⟩) (c5 : PySem.W.codeIn K cd5 "recipes_within" = true) (k5 : PySem.W.keepIn K (.ref f5) = true)
    (a6 : PySem.W.nsIn K mainGlobals "is_recipe" = some (some (.ref f6))) (l6 : K.lookup f6 = some ⟨oc6, od6, .func (PySem.W.fnOf "is_recipe" "is_recipe" (defArgs s_is_recipe) (defBody s_is_recipe) (defScope s_is_recipe) .none kV6 dc6 pm6 an6 cd6 ct6), sl6⟩) (c6 : PySem.W.codeIn K cd6 "is_recipe" = true) (k6 : PySem.W.keepIn K (.ref f6) = true)
    (a7 : PySem.W.nsIn K mainGlobals "rows_of" = some (some (.ref f7))) (l7 : K.lookup f7 = some ⟨oc7, od7, .func (PySem.W.fnOf "rows_of" "rows_of" (defArgs s_rows_of) (defBody s_rows_of) (defScope s_rows_of) .none kV7 dc7 pm7 an7 cd7 ct7), sl7⟩) (c7 : PySem.W.codeIn K cd7 "rows_of" = true) (k7 : PySem.W.keepIn K (.ref f7) = true)
    (a8 : PySem.W.nsIn K mainGlobals "reading" = some (some (.ref f8))) (l8 : K.lookup f8 = some ⟨oc8, od8, .func (PySem.W.fnOf "reading" "reading" (defArgs s_reading) (defBody s_reading) (defScope s_reading) .none kV8 dc8 pm8 an8 cd8 ct8), sl8⟩) (c8 : PySem.W.codeIn K cd8 "reading" = true) (k8 : PySem.W.keepIn K (.ref f8) = true)
    (a9 : PySem.W.nsIn K mainGlobals "summed" = some (some (.ref f9))) (l9 : K.lookup f9 = some ⟨oc9, od9, .func (PySem.W.fnOf "summed" "summed" (defArgs s_summed) (defBody s_summed) (defScope s_summed) .none kV9 dc9 pm9 an9 cd9 ct9), sl9⟩) (c9 : PySem.W.codeIn K cd9 "summed" = true) (k9 : PySem.W.keepIn K (.ref f9) = true)
    (a10 : PySem.W.nsIn K mainGlobals "twin_of" = some (some (.ref f10))) (l10 : K.lookup f10 = some ⟨oc10, od10, .func (PySem.W.fnOf "twin_of" "twin_of" (defArgs s_twin_of) (defBody s_twin_of) (defScope s_twin_of) .none kV10 dc10 pm10 an10 cd10 ct10), sl10⟩) (c10 : PySem.W.codeIn K cd10 "twin_of" = true) (k10 : PySem.W.keepIn K (.ref f10) = true)
    (a11 : PySem.W.nsIn K mainGlobals "_law_cell_at" = some (some (.ref f11))) (l11 : K.lookup f11 = some ⟨oc11, od11, .func (PySem.W.fnOf "_law_cell_at" "_law_cell_at" (defArgs s_law_cell_at) (defBody s_law_cell_at) (defScope s_law_cell_at) .none kV11 dc11 pm11 an11 cd11 ct11), sl11⟩) (c11 : PySem.W.codeIn K cd11 "_law_cell_at" = true) (k11 : PySem.W.keepIn K (.ref f11) = true)
    (a12 : PySem.W.nsIn K mainGlobals "_law_pool" = some (some (.ref f12))) (l12 : K.lookup f12 = some ⟨oc12, od12, .func (PySem.W.fnOf "_law_pool" "_law_pool" (defArgs s_law_pool) (defBody s_law_pool) (defScope s_law_pool) .none kV12 dc12 pm12 an12 cd12 ct12), sl12⟩) (c12 : PySem.W.codeIn K cd12 "_law_pool" = true) (k12 : PySem.W.keepIn K (.ref f12) = true)
    (a13 : PySem.W.nsIn K mainGlobals "_law_take" = some (some (.ref f13))) (l13 : K.lookup f13 = some ⟨oc13, od13, .func (PySem.W.fnOf "_law_take" "_law_take" (defArgs s_law_take) (defBody s_law_take) (defScope s_law_take) .none kV13 dc13 pm13 an13 cd13 ct13), sl13⟩) (c13 : PySem.W.codeIn K cd13 "_law_take" = true) (k13 : PySem.W.keepIn K (.ref f13) = true)
    (a14 : PySem.W.nsIn K mainGlobals "_law_name" = some (some (.ref f14))) (l14 : K.lookup f14 = some ⟨oc14, od14, .func (PySem.W.fnOf "_law_name" "_law_name" (defArgs s_law_name) (defBody s_law_name) (defScope s_law_name) .none kV14 dc14 pm14 an14 cd14 ct14), sl14⟩) (c14 : PySem.W.codeIn K cd14 "_law_name" = true) (k14 : PySem.W.keepIn K (.ref f14) = true)
    (a15 : PySem.W.nsIn K mainGlobals "_law_summed" = some (some (.ref f15))) (l15 : K.lookup f15 = some ⟨oc15, od15, .func (PySem.W.fnOf "_law_summed" "_law_summed" (defArgs s_law_summed) (defBody s_law_summed) (defScope s_law_summed) .none kV15 dc15 pm15 an15 cd15 ct15), sl15⟩) (c15 : PySem.W.codeIn K cd15 "_law_summed" = true) (k15 : PySem.W.keepIn K (.ref f15) = true)
    (a16 : PySem.W.nsIn K mainGlobals "_law_refused" = some (some (.ref f16))) (l16 : K.lookup f16 = some ⟨oc16, od16, .func (PySem.W.fnOf "_law_refused" "_law_refused" (defArgs s_law_refused) (defBody s_law_refused) (defScope s_law_refused) .none kV16 dc16 pm16 an16 cd16 ct16), sl16⟩) (c16 : PySem.W.codeIn K cd16 "_law_refused" = true) (k16 : PySem.W.keepIn K (.ref f16) = true)
    (a17 : PySem.W.nsIn K mainGlobals "law" = some (some (.ref f17))) (l17 : K.lookup f17 = some ⟨oc17, od17, .func (PySem.W.fnOf "law" "law" (defArgs s_law) (defBody s_law) (defScope s_law) .none kV17 dc17 pm17 an17 cd17 ct17), sl17⟩) (c17 : PySem.W.codeIn K cd17 "law" = true) (k17 : PySem.W.keepIn K (.ref f17) = true)
    {aW : Addr} (taW : PySem.W.nsIn K mainGlobals "WITHIN" = some (some (.ref aW))) (tbaW : Tab l.prog w K aW withinD)
    {tLT : Tok} (qLT : PySem.W.nsIn K mainGlobals "LETTERS" = some (some (.str "abcdefghijklmnopqrstuvwxyz" tLT)))
    {tML : Tok} (qML : PySem.W.nsIn K mainGlobals "MOST_LETTERS" = some (some (.int 8 tML)))
    {tMC : Tok} (qMC : PySem.W.nsIn K mainGlobals "MOST_CHOICES" = some (some (.int 9 tMC)))
    {tMD : Tok} (qMD : PySem.W.nsIn K mainGlobals "MOST_DEPTH" = some (some (.int 8 tMD)))
    {tMR : Tok} (qMR : PySem.W.nsIn K mainGlobals "MOST_RECIPES" = some (some (.int 100 tMR)))
    {tLR : Tok} (qLR : PySem.W.nsIn K mainGlobals "LONGEST_ROW" = some (some (.int 3 tLR)))
    (kd : Kinds K)
    {CT : Addr} (aT : PySem.W.nsIn K mainGlobals "NoText" = some (some (.ref CT)))
    {CM : Addr} (aM : PySem.W.nsIn K mainGlobals "MadeError" = some (some (.ref CM)))
    {CD : Addr} (aD : PySem.W.nsIn K mainGlobals "NoDeed" = some (some (.ref CD)))
    {CN : Addr} (aN : PySem.W.nsIn K mainGlobals "NoName" = some (some (.ref CN)))
    {CR1 : Addr} (aR1 : PySem.W.nsIn K mainGlobals "NoRead" = some (some (.ref CR1)))
    {CR2 : Addr} (aR2 : PySem.W.nsIn K mainGlobals "NoRecord" = some (some (.ref CR2)))
    {CR3 : Addr} (aR3 : PySem.W.nsIn K mainGlobals "NoRow" = some (some (.ref CR3)))
    {CR4 : Addr} (aR4 : PySem.W.nsIn K mainGlobals "Ring" = some (some (.ref CR4)))
    {nmT qT : Str} {NT : Addr} {bsT bmT : List Value} {hdT : Bool} {snT : List Str} {subT : List Value} {abT : Bool} {colT : Option Bool} {ddT : Option Addr} {k0T k1T k2T k3T k5T : Option Value}
    (lkT : K.lookup CR1 = some (excClassObj nmT qT CR1 NT bsT bmT hdT snT subT abT colT ddT k0T k1T k2T k3T k5T "ValueError.__new__"))
    (nkT : PySem.W.nsOkIn K NT = true)
    (ikT : PySem.W.nsIn K NT "__init__" = some none)
    (tkT : PySem.W.tailIn K [.type "ValueError", .type "Exception", .type "BaseException", .type "object"] bmT = true)
    (xk1 : PySem.W.findIn K (.ref CR1) "__getattribute__" = some (some (.builtin "BaseException.__getattribute__")))
    (xk2 : PySem.W.findIn K (.ref CR1) "__getattr__" = some none)
    (xk3 : PySem.W.findIn K (.ref CR1) "__class__" = some (some (.builtin "object.__class__")))
    (xk4 : PySem.W.mroIn K CR1 (.type "BaseException") = some true)
    (xk5 : PySem.W.mroIn K CR1 (.type "object") = some true)
    (xk6 : (PySem.W.clsIn K CR1).isSome = true)
    (x1 : PySem.W.exmOne K (.ref CR1) (.ref CM) = some true)
    (x2 : PySem.W.kitOne K (.ref CR1) (.ref CR1) = some true)
    (x3 : PySem.W.kitOne K (.ref CR1) (.type "ValueError") = some true)
    (x4 : PySem.W.kitOne K (.ref CR1) (.ref CN) = some false)
    (x5 : PySem.W.kitOne K (.ref CR1) (.ref CR4) = some false)
    (x6 : PySem.W.kitOne K (.ref CR1) (.ref CT) = some false)
    (x7 : PySem.W.kitOne K (.ref CR1) (.ref CR3) = some false)
    (x8 : PySem.W.kitOne K (.ref CR1) (.ref CR2) = some false)
    (x9 : PySem.W.kitOne K (.ref CR1) (.ref CD) = some false)
    (zV : PySem.W.nsIn K mainGlobals "ValueError" = some none)
    (z_len : PySem.W.nsIn K mainGlobals "len" = some none)
    (z_range : PySem.W.nsIn K mainGlobals "range" = some none)
    (z_str : PySem.W.nsIn K mainGlobals "str" = some none)
    (z_int : PySem.W.nsIn K mainGlobals "int" = some none)
    (z_list : PySem.W.nsIn K mainGlobals "list" = some none)
    (z_tuple : PySem.W.nsIn K mainGlobals "tuple" = some none)
    (z_isinstance : PySem.W.nsIn K mainGlobals "isinstance" = some none)
    (z_bool : PySem.W.nsIn K mainGlobals "bool" = some none)
    (z_dict : PySem.W.nsIn K mainGlobals "dict" = some none)
    (z_sum : PySem.W.nsIn K mainGlobals "sum" = some none)
    (z_all : PySem.W.nsIn K mainGlobals "all" = some none)
    (z_any : PySem.W.nsIn K mainGlobals "any" = some none)
    (z_max : PySem.W.nsIn K mainGlobals "max" = some none)
    (z_min : PySem.W.nsIn K mainGlobals "min" = some none)
    (z_sorted : PySem.W.nsIn K mainGlobals "sorted" = some none)
    (z_set : PySem.W.nsIn K mainGlobals "set" = some none)
    (z_enumerate : PySem.W.nsIn K mainGlobals "enumerate" = some none)
    (z_zip : PySem.W.nsIn K mainGlobals "zip" = some none)
    (z_reversed : PySem.W.nsIn K mainGlobals "reversed" = some none)
    (z_abs : PySem.W.nsIn K mainGlobals "abs" = some none)
    : ∃ fd : FuncData, (∀ (s : Shared) (v : Value), BindsTo s fd ⟨[v], []⟩ [("script", v)]) ∧ ∀ base : Heap, K.In base → base.Ns mainGlobals mg → FnOk l.prog w K mg base CX0 8 fa fd ["script"] (spLaw K) := by
  have e := hfa.symm.trans (PySem.W.mg_of X G a17)
  cases e
  have T_is_whole_number : FnT K mg "is_whole_number" s_is_whole_number ["thing"] _ _ := fnT_mk X G a1 l1 c1 k1 (fun us hl => match us, hl with | [_], _ => rfl)
  have T_is_name : FnT K mg "is_name" s_is_name ["thing"] _ _ := fnT_mk X G a2 l2 c2 k2 (fun us hl => match us, hl with | [_], _ => rfl)
  have T_is_choice : FnT K mg "is_choice" s_is_choice ["thing"] _ _ := fnT_mk X G a3 l3 c3 k3 (fun us hl => match us, hl with | [_], _ => rfl)
  have T_has_shape : FnT K mg "has_shape" s_has_shape ["thing"] _ _ := fnT_mk X G a4 l4 c4 k4 (fun us hl => match us, hl with | [_], _ => rfl)
  have T_recipes_within : FnT K mg "recipes_within" s_recipes_within ["r"] _ _ := fnT_mk X G a5 l5 c5 k5 (fun us hl => match us, hl with | [_], _ => rfl)
  have T_is_recipe : FnT K mg "is_recipe" s_is_recipe ["thing"] _ _ := fnT_mk X G a6 l6 c6 k6 (fun us hl => match us, hl with | [_], _ => rfl)
  have T_rows_of : FnT K mg "rows_of" s_rows_of ["reads"] _ _ := fnT_mk X G a7 l7 c7 k7 (fun us hl => match us, hl with | [_], _ => rfl)
  have T_reading : FnT K mg "reading" s_reading ["row"] _ _ := fnT_mk X G a8 l8 c8 k8 (fun us hl => match us, hl with | [_], _ => rfl)
  have T_summed : FnT K mg "summed" s_summed ["parts"] _ _ := fnT_mk X G a9 l9 c9 k9 (fun us hl => match us, hl with | [_], _ => rfl)
  have T_twin_of : FnT K mg "twin_of" s_twin_of ["record", "k"] _ _ := fnT_mk X G a10 l10 c10 k10 (fun us hl => match us, hl with | [_, _], _ => rfl)
  have T_law_cell_at : FnT K mg "_law_cell_at" s_law_cell_at ["script", "k"] _ _ := fnT_mk X G a11 l11 c11 k11 (fun us hl => match us, hl with | [_, _], _ => rfl)
  have T_law_pool : FnT K mg "_law_pool" s_law_pool ["script", "k"] _ _ := fnT_mk X G a12 l12 c12 k12 (fun us hl => match us, hl with | [_, _], _ => rfl)
  have T_law_take : FnT K mg "_law_take" s_law_take ["pool", "many"] _ _ := fnT_mk X G a13 l13 c13 k13 (fun us hl => match us, hl with | [_, _], _ => rfl)
  have T_law_name : FnT K mg "_law_name" s_law_name ["k"] _ _ := fnT_mk X G a14 l14 c14 k14 (fun us hl => match us, hl with | [_], _ => rfl)
  have T_law_summed : FnT K mg "_law_summed" s_law_summed ["reads", "worth"] _ _ := fnT_mk X G a15 l15 c15 k15 (fun us hl => match us, hl with | [_, _], _ => rfl)
  have T_law_refused : FnT K mg "_law_refused" s_law_refused ["record", "k"] _ _ := fnT_mk X G a16 l16 c16 k16 (fun us hl => match us, hl with | [_, _], _ => rfl)
  have T_law : FnT K mg "law" s_law ["script"] _ _ := fnT_mk X G a17 l17 c17 k17 (fun us hl => match us, hl with | [_], _ => rfl)
  have T : Blt mg := ⟨PySem.W.mg_none_of X G z_len, PySem.W.mg_none_of X G z_range, PySem.W.mg_none_of X G z_str, PySem.W.mg_none_of X G z_int, PySem.W.mg_none_of X G z_list, PySem.W.mg_none_of X G z_tuple, PySem.W.mg_none_of X G z_isinstance, PySem.W.mg_none_of X G z_bool, PySem.W.mg_none_of X G z_dict, PySem.W.mg_none_of X G z_sum, PySem.W.mg_none_of X G z_all, PySem.W.mg_none_of X G z_any, PySem.W.mg_none_of X G z_max, PySem.W.mg_none_of X G z_min, PySem.W.mg_none_of X G z_sorted, PySem.W.mg_none_of X G z_set, PySem.W.mg_none_of X G z_enumerate, PySem.W.mg_none_of X G z_zip, PySem.W.mg_none_of X G z_reversed, PySem.W.mg_none_of X G z_abs⟩
  have maW := PySem.W.mg_of X G taW
  have mLT := PySem.W.mg_of X G qLT
  have mML := PySem.W.mg_of X G qML
  have mMC := PySem.W.mg_of X G qMC
  have mMD := PySem.W.mg_of X G qMD
  have mMR := PySem.W.mg_of X G qMR
  have mLR := PySem.W.mg_of X G qLR
  refine ⟨PySem.W.fnOf "law" "law" (defArgs s_law) (defBody s_law) (defScope s_law) .none kV17 dc17 pm17 an17 cd17 ct17, fun s v => .of_eq rfl, fun base _ _ => ?_⟩
  have cN : ExC K CR1 := ⟨⟨_, _, _, _, _, _, _, _, _, _, _, _, _, _, _, _, lkT, nkT, ikT, tkT⟩⟩
  have xk : ExK K CR1 := ⟨xk1, xk2, xk3, xk4, xk5, xk6⟩
  have mR := PySem.W.mg_of X G aR1
  have D1 := ok_is_whole_number (P := l.prog) (w := w) (base := base) T_is_whole_number T kd
  have D2 := ok_is_name (P := l.prog) (w := w) (base := base) T_is_name T kd mLT mML
  have D3 := ok_is_choice (P := l.prog) (w := w) (base := base) T_is_choice T_is_name D2 T kd mMC
  have D4 := ok_has_shape (P := l.prog) (w := w) (base := base) T_has_shape T_is_whole_number D1 T_is_name D2 T_is_choice D3 T kd maW tbaW
  have D5 := ok_recipes_within (P := l.prog) (w := w) (base := base) T_recipes_within T maW tbaW
  have D6 := ok_is_recipe (P := l.prog) (w := w) (base := base) T_is_recipe T_has_shape D4 T_recipes_within D5 T mMR mMD
  have E1 := ok_rows_of (P := l.prog) (w := w) (base := base) T_rows_of T mLR
  have E2 := ok_reading (P := l.prog) (w := w) (base := base) T_reading T
  have E3 := ok_summed (P := l.prog) (w := w) (base := base) T_summed T 4
  have E4 := ok_twin_of (P := l.prog) (w := w) (base := base) T_twin_of T_rows_of E1 T_reading E2 T_summed E3 T_is_recipe D6 T cN mR
  have F1 := ok_law_cell_at (P := l.prog) (w := w) (base := base) T_law_cell_at T
  have F2 := ok_law_pool (P := l.prog) (w := w) (base := base) T_law_pool T_law_cell_at F1 T
  have F3 := ok_law_take (P := l.prog) (w := w) (base := base) T_law_take T
  have F4 := ok_law_name (P := l.prog) (w := w) (base := base) T_law_name T
  have F5 := ok_law_summed (P := l.prog) (w := w) (base := base) T_law_summed T
  have F6 := ok_law_refused (P := l.prog) (w := w) (base := base) T_law_refused T_twin_of E4 T xk (PySem.W.mg_none_of X G zV) (PySem.W.mg_of X G aM) (PySem.W.mg_of X G aT) (PySem.W.mg_of X G aD) (PySem.W.mg_of X G aN) mR (PySem.W.mg_of X G aR2) (PySem.W.mg_of X G aR3) (PySem.W.mg_of X G aR4) x1 x2 x3 x4 x5 x6 x7 x8 x9
  exact ok_law T_law T_law_cell_at F1 T_law_name F4 T_law_summed F5 T_law_pool F2 T_law_take F3 T_law_refused F6 T_twin_of E4 T
theorem walk {l : PySem.W.OpenLaw} {q : Program} {loose : List Str} {XP : (Str → Option Value) → Heap → Prop} {YP : World → Heap → Prop} {d : DefRec} {K : Params → PySem.W.Frag} (hn : l.most = some 63) (hdf : d.params.defaults = [])
    (hY : ∀ (w : World) (h : Heap), YP w h → (K w.params).In h)
    (F : ∀ (w : World) (mg : Str → Option Value) (fa : Addr) (h : Heap), (K w.params).In h → h.Ns mainGlobals mg → mg d.name = some (.ref fa) →
      ∃ fd : FuncData, (∀ (s : Shared) (u : Value), BindsTo s fd ⟨[u], []⟩ [("script", u)]) ∧ ∀ base : Heap, (K w.params).In base → base.Ns mainGlobals mg → FnOk l.prog w (K w.params) mg base CX0 8 fa fd ["script"] (spLaw (K w.params))) :
    PySem.W.WalkO q loose XP YP l.row.toRowW d [] (fun f vs => PySem.call f vs) :=
  L2.walk_of (n := 63) (k := 8) (x := "script") (CX := fun _ => CX0) (sp := fun w => spLaw (K w.params)) hn (by decide) hdf ⟨rfl, by decide, by decide⟩ hY F (fun _ _ a ns hl _ hS => ⟨a, ns, rfl, hS, hl, fun _ => rfl⟩) fun _ _ _ _ _ z => z
end K38
open PySem PySem.W PyProof.Rows
set_option maxRecDepth 100000 in
set_option maxHeartbeats 0 in
theorem PySem.Challenge.cw_madeagain_k38_no_read_holds : PySem.Challenge.rw_madeagain_k38_no_read.Holds := by
  w_on; o_law; k_head; (case hw => w_witness2)
  k_fill
  refine K38.walk (l := PySem.Challenge.rw_madeagain_k38_no_read) rfl rfl (fun w h Y => PySem.W.kIn_of Y) ?F
  case F =>
    intro w mg fa h KX G hmg
    refine' K38.all_mk KX G hmg ?a1 ?l1 ?c1 ?k1 ?a2 ?l2 ?c2 ?k2 ?a3 ?l3 ?c3 ?k3 ?a4 ?l4 ?c4 ?k4 ?a5 ?l5 ?c5 ?k5 ?a6 ?l6 ?c6 ?k6 ?a7 ?l7 ?c7 ?k7 ?a8 ?l8 ?c8 ?k8 ?a9 ?l9 ?c9 ?k9 ?a10 ?l10 ?c10 ?k10 ?a11 ?l11 ?c11 ?k11 ?a12 ?l12 ?c12 ?k12 ?a13 ?l13 ?c13 ?k13 ?a14 ?l14 ?c14 ?k14 ?a15 ?l15 ?c15 ?k15 ?a16 ?l16 ?c16 ?k16 ?a17 ?l17 ?c17 ?k17 ?taW ?tbaW ?qLT ?qML ?qMC ?qMD ?qMR ?qLR ?kd ?aT ?aM ?aD ?aN ?aR1 ?aR2 ?aR3 ?aR4 ?lkT ?nkT ?ikT ?tkT ?xk1 ?xk2 ?xk3 ?xk4 ?xk5 ?xk6 ?x1 ?x2 ?x3 ?x4 ?x5 ?x6 ?x7 ?x8 ?x9 ?zV ?z_len ?z_range ?z_str ?z_int ?z_list ?z_tuple ?z_isinstance ?z_bool ?z_dict ?z_sum ?z_all ?z_any ?z_max ?z_min ?z_sorted ?z_set ?z_enumerate ?z_zip ?z_reversed ?z_abs
    (case a1 => k_is); (case l1 => k_is); (case c1 => k_is); (case k1 => k_is)
    (case a2 => k_is); (case l2 => k_is); (case c2 => k_is); (case k2 => k_is)
    (case a3 => k_is); (case l3 => k_is); (case c3 => k_is); (case k3 => k_is)
    (case a4 => k_is); (case l4 => k_is); (case c4 => k_is); (case k4 => k_is)
    (case a5 => k_is); (case l5 => k_is); (case c5 => k_is); (case k5 => k_is)
    (case a6 => k_is); (case l6 => k_is); (case c6 => k_is); (case k6 => k_is)
    (case a7 => k_is); (case l7 => k_is); (case c7 => k_is); (case k7 => k_is)
    (case a8 => k_is); (case l8 => k_is); (case c8 => k_is); (case k8 => k_is)
    (case a9 => k_is); (case l9 => k_is); (case c9 => k_is); (case k9 => k_is)
    (case a10 => k_is); (case l10 => k_is); (case c10 => k_is); (case k10 => k_is)
    (case a11 => k_is); (case l11 => k_is); (case c11 => k_is); (case k11 => k_is)
    (case a12 => k_is); (case l12 => k_is); (case c12 => k_is); (case k12 => k_is)
    (case a13 => k_is); (case l13 => k_is); (case c13 => k_is); (case k13 => k_is)
    (case a14 => k_is); (case l14 => k_is); (case c14 => k_is); (case k14 => k_is)
    (case a15 => k_is); (case l15 => k_is); (case c15 => k_is); (case k15 => k_is)
    (case a16 => k_is); (case l16 => k_is); (case c16 => k_is); (case k16 => k_is)
    (case a17 => k_is); (case l17 => k_is); (case c17 => k_is); (case k17 => k_is)
    (case taW => k_is); (case tbaW => exact L2.tab_mk (by kernel_rfl) (by decide +kernel) (by kernel_rfl))
    (case qLT => k_is)
    (case qML => k_is)
    (case qMC => k_is)
    (case qMD => k_is)
    (case qMR => k_is)
    (case qLR => k_is)
    (case kd => exact RB.kinds_mk (by kernel_rfl))
    (case aT => k_is)
    (case aM => k_is)
    (case aD => k_is)
    (case aN => k_is)
    (case aR1 => k_is)
    (case aR2 => k_is)
    (case aR3 => k_is)
    (case aR4 => k_is)
    (case lkT => k_is)
    (case nkT => kernel_rfl)
    (case ikT => kernel_rfl)
    (case tkT => kernel_rfl)
    (case xk1 => kernel_rfl)
    (case xk2 => kernel_rfl)
    (case xk3 => kernel_rfl)
    (case xk4 => kernel_rfl)
    (case xk5 => kernel_rfl)
    (case xk6 => kernel_rfl)
    (case x1 => kernel_rfl)
    (case x2 => kernel_rfl)
    (case x3 => kernel_rfl)
    (case x4 => kernel_rfl)
    (case x5 => kernel_rfl)
    (case x6 => kernel_rfl)
    (case x7 => kernel_rfl)
    (case x8 => kernel_rfl)
    (case x9 => kernel_rfl)
    (case zV => k_is)
    (case z_len => k_is); (case z_range => k_is); (case z_str => k_is); (case z_int => k_is); (case z_list => k_is); (case z_tuple => k_is); (case z_isinstance => k_is); (case z_bool => k_is); (case z_dict => k_is); (case z_sum => k_is); (case z_all => k_is); (case z_any => k_is); (case z_max => k_is); (case z_min => k_is); (case z_sorted => k_is); (case z_set => k_is); (case z_enumerate => k_is); (case z_zip => k_is); (case z_reversed => k_is); (case z_abs => k_is)

