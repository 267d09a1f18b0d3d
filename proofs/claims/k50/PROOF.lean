import PyProof.Rows.All
import Wide.All
import OpenK.AllK
import Wide.FinOn
import Lean
import PyProof.EqAt
import PyProof.EqKinds
import PyProof.TupleCall
import KE.KTops
import KE.KIntText
import KE.KTryMore
import PyProof.ExcBaseAll.ValueError
import PyProof.Rows.SetFrom
import PyProof.ZipIter
import KE.KTurns
import KE.KxText
import PyProof.Rows.SumGenD
import KE.KDictList
import PySem.Challenge.RW_madeagain_k50_behind_any_reads
set_option Elab.async false
set_option linter.all false
set_option maxRecDepth 100000
/-! THE HAND LAYER, for ints, bools, texts, own classes, LISTS and tuples (index, slices, in, append, pop ..), calls, loops. Paste it whole ahead of your own text; what your proof does not reach may be deleted. -/
namespace L2
open PySem PySem.Spec PyProof.Rows

/-- a key: an int or a str -/
noncomputable abbrev Key := Sum Int Str
noncomputable def keyIs : Key → Value → Bool
  | .inl k, v => Value.isInt k v
  | .inr x, v => Value.isStrOf x v
noncomputable def keyH (w : World) : Key → Int
  | .inl k => hashInt k
  | .inr x => hashStr w x
theorem keyIs_shape : ∀ {k : Key} {v : Value}, keyIs k v = true → (∃ i t, k = Sum.inl i ∧ v = Value.int i t) ∨ (∃ x t, k = Sum.inr x ∧ v = Value.str x t)
  | .inl i, v, h => by
    obtain ⟨t, e⟩ := Value.isInt_shape (k := i) (v := v) h
    exact .inl ⟨i, t, rfl, e⟩
  | .inr x, v, h => by
    obtain ⟨t, e⟩ := Value.isStrOf_shape (x := x) (v := v) h
    exact .inr ⟨x, t, rfl, e⟩
theorem keyIs_int (i : Int) (t : Tok) : keyIs (.inl i) (.int i t) = true := by simp [keyIs, Value.isInt]
theorem keyIs_str (x : Str) (t : Tok) : keyIs (.inr x) (.str x t) = true := by simp [keyIs, Value.isStrOf]
theorem key_ll (a b : Int) : decide ((Sum.inl a : Key) = Sum.inl b) = (a == b) := by
  by_cases e : a = b
  · subst e; simp
  · have h : ¬ (Sum.inl a : Key) = Sum.inl b := fun q => e (Sum.inl.inj q)
    rw [decide_eq_false h]
    exact (beq_eq_false_iff_ne.mpr e).symm
theorem key_rr (a b : Str) : decide ((Sum.inr a : Key) = Sum.inr b) = decide (a = b) := by
  by_cases e : a = b
  · subst e; simp
  · have h : ¬ (Sum.inr a : Key) = Sum.inr b := fun q => e (Sum.inr.inj q)
    rw [decide_eq_false h, decide_eq_false e]
theorem key_lr (a : Int) (b : Str) : decide ((Sum.inl a : Key) = Sum.inr b) = false := decide_eq_false (fun q => nomatch q)
theorem key_rl (a : Str) (b : Int) : decide ((Sum.inr a : Key) = Sum.inl b) = false := decide_eq_false (fun q => nomatch q)

noncomputable def mixKind (prog : Program) (w : World) : PySem.KeyKind prog w Key where
  is := keyIs
  hash := keyH w
  inj := fun v a b ha hb => by
    rcases keyIs_shape ha with ⟨i, t, rfl, rfl⟩ | ⟨x, t, rfl, rfl⟩
    · rcases keyIs_shape hb with ⟨j, u, rfl, e⟩ | ⟨y, u, rfl, e⟩
      · injection e with e1 _; rw [e1]
      · exact nomatch e
    · rcases keyIs_shape hb with ⟨j, u, rfl, e⟩ | ⟨y, u, rfl, e⟩
      · exact nomatch e
      · injection e with e1 _; rw [e1]
  byValue := fun k v h => by
    rcases keyIs_shape h with ⟨i, t, rfl, rfl⟩ | ⟨x, t, rfl, rfl⟩ <;> rfl
  pyHash := fun hv h => by
    rcases keyIs_shape hv with ⟨i, t, rfl, rfl⟩ | ⟨x, t, rfl, rfl⟩
    · exact wpAny_pyHash_int h
    · exact wpAny_pyHash_str h
  eqBool := fun hu hv h => by
    rcases keyIs_shape hu with ⟨i, t, rfl, rfl⟩ | ⟨x, t, rfl, rfl⟩
    · rcases keyIs_shape hv with ⟨j, u, rfl, rfl⟩ | ⟨y, u, rfl, rfl⟩
      · rw [key_ll] at h; exact wpAny_eqBool_int h
      · rw [key_lr] at h; exact SeqAt.EqAt.int_str i t y u _ _ _ _ h
    · rcases keyIs_shape hv with ⟨j, u, rfl, rfl⟩ | ⟨y, u, rfl, rfl⟩
      · rw [key_rl] at h; exact SeqAt.EqAt.str_int x t j u _ _ _ _ h
      · rw [key_rr] at h; exact wpAny_eqBool_str h
  «strs» := fun k x t v h => by
    rcases keyIs_shape h with ⟨i, u, rfl, e⟩ | ⟨y, u, rfl, e⟩
    · exact nomatch e
    · injection e with e1 _
      subst e1
      cases v <;> rfl

theorem mixKind_int (prog : Program) (w : World) (i : Int) (t : Tok) : (mixKind prog w).is (.inl i) (.int i t) = true := keyIs_int i t
theorem mixKind_str (prog : Program) (w : World) (x : Str) (t : Tok) : (mixKind prog w).is (.inr x) (.str x t) = true := keyIs_str x t
end L2

namespace L2
open PySem PySem.Spec PyProof.Rows

/-- a value, without the heap -/
inductive V where
  | non | bl (b : Bool) | int (i : Int) | str (x : Str) | byt (b : Array UInt8) | flt (b : UInt64) | ref (a : Addr) | ty (n : String)
  deriving DecidableEq

noncomputable def RelV : V → Value → Prop
  | .non, u => u = Value.none
  | .bl b, u => u = Value.bool b
  | .int i, u => ∃ t, u = Value.int i t
  | .str x, u => ∃ t, u = Value.str x t
  | .byt b, u => ∃ t, u = Value.bytes b t
  | .flt b, u => ∃ t, u = Value.float b t
  | .ref a, u => u = Value.ref a
  | .ty n, u => u = Value.type n

noncomputable abbrev Vals : List V → List Value → Prop := Paired RelV
theorem Vals.length {xs : List V} {us : List Value} (r : Vals xs us) : xs.length = us.length := Paired.length r
theorem Vals.get : ∀ {xs : List V} {us : List Value} {i : Nat} {x : V}, Vals xs us → xs[i]? = some x → ∃ u, us[i]? = some u ∧ RelV x u
  | _, _, _, _, .nil, e => by simp at e
  | _, _, 0, _, .cons r _, e => by simp at e; subst e; exact ⟨_, rfl, r⟩
  | _, _, i + 1, x, .cons _ t, e => by
    obtain ⟨u, h1, h2⟩ := Vals.get (i := i) (x := x) t (by simpa using e)
    exact ⟨u, by simpa using h1, h2⟩
theorem Vals.set {x : V} {u : Value} (r : RelV x u) : ∀ {xs : List V} {us : List Value} (i : Nat), Vals xs us → Vals (xs.set i x) (us.set i u)
  | _, _, _, .nil => .nil
  | _, _, 0, .cons _ t => .cons r t
  | _, _, i + 1, .cons q t => .cons q (Vals.set r i t)
theorem Vals.append : ∀ {xs ys : List V} {us ws : List Value}, Vals xs us → Vals ys ws → Vals (xs ++ ys) (us ++ ws)
  | _, _, _, _, .nil, s => s
  | _, _, _, _, .cons r t, s => .cons r (Vals.append t s)
theorem Vals.take : ∀ {xs : List V} {us : List Value} (n : Nat), Vals xs us → Vals (xs.take n) (us.take n)
  | _, _, 0, _ => .nil
  | _, _, _ + 1, .nil => .nil
  | _, _, n + 1, .cons r t => .cons r (Vals.take n t)
theorem Vals.drop : ∀ {xs : List V} {us : List Value} (n : Nat), Vals xs us → Vals (xs.drop n) (us.drop n)
  | _, _, 0, r => r
  | _, _, _ + 1, .nil => .nil
  | _, _, n + 1, .cons _ t => Vals.drop n t

noncomputable def RelO : Option V → Option Value → Prop
  | some v, some u => RelV v u
  | none, none => True
  | _, _ => False
noncomputable def KV {κ : Type} : List (κ × V) → List (κ × Value) → Prop := Paired fun (p : κ × V) (q : κ × Value) => p.1 = q.1 ∧ RelV p.2 q.2

/-- a key of a dict (00_mix): an int or a text -/
noncomputable def kV : Key → V
  | .inl i => .int i
  | .inr x => .str x

/-- what stands at a tracked address -/
inductive HO where
  /-- a list -/
  | lst (xs : List V)
  /-- a tuple (never changes) -/
  | tup (xs : List V)
  /-- a dict whose keys are ints and texts; one whose keys are tuples of ints and texts (the empty one is both) -/
  | dK (kvs : List (Key × V)) | dT (kvs : List (List Key × V))
  /-- a set of ints: its members, its size -/
  | set (S : Int → Bool) (n : Nat)
  /-- an instance of the class at C, its dict at dx, its attributes -/
  | ins (C dx : Addr) (fs : List (Str × V))
  /-- the dict of the instance at x -/
  | own (x : Addr)
  /-- the dict of an exception -/
  | xd (fs : List (Str × V))
  /-- a bound method, f of x -/
  | met (f x : Addr)
  /-- a range object lo, lo + 1, .. below hi -/
  | rng (lo hi : Int)
  /-- a thing that is known to the object (the script; a dict while a loop walks it): read, never written while it is so -/
  | frz (o : Obj) (u : HO)
  /-- a code object's table -/
  | tbl (ps : Array Value)
  /-- any other thing, by what is true of its one object (a def of one's own: SetO a S n := HO.ext fun h => ..) -/
  | ext (φ : Heap → Prop)

noncomputable abbrev Hp := Addr → Option HO
noncomputable def upd (H : Hp) (a : Addr) (o : HO) : Hp := fun b => if b = a then some o else H b
theorem upd_same {H : Hp} {a : Addr} {o : HO} : upd H a o a = some o := by unfold upd; rw [if_pos rfl]
theorem upd_ne {H : Hp} {a b : Addr} {o : HO} (h : b ≠ a) : upd H a o b = H b := by unfold upd; rw [if_neg h]
theorem upd_upd {H : Hp} {a : Addr} {o u : HO} : upd (upd H a o) a u = upd H a u := by
  funext b; unfold upd; split <;> rfl
/-- two objects of different content stand apart -/
theorem ne_of {H : Hp} {a b : Addr} {o u : HO} (h : H a = some o) (h' : H b = some u) (d : o ≠ u) : a ≠ b := by
  intro e; subst e; rw [h] at h'; exact d (Option.some.inj h')
theorem ne_of_none {H : Hp} {a b : Addr} {o : HO} (h : H a = some o) (h' : H b = none) : a ≠ b := by
  intro e; subst e; rw [h] at h'; cases h'

section
variable (P : Program) (w : World)
noncomputable def ObjOk (H : Hp) (h : Heap) (a : Addr) : HO → Prop
  | .lst xs => xs.length ≤ sizeLine ∧ ∃ (its : List Value) (n : Nat), Vals xs its ∧ h.get? a = some { cls := .type "list", data := .seq its.toArray n }
  | .tup xs => xs.length ≤ sizeLine ∧ ∃ its : List Value, Vals xs its ∧ IsTup h a its.toArray
  | .dK kvs => kvs.length ≤ sizeLine ∧ (a == sysModules) = false ∧ ∃ vs, KV kvs vs ∧ h.DictOf (mixKind P w) a vs
  | .dT kvs => kvs.length ≤ sizeLine ∧ (a == sysModules) = false ∧ ∃ xs : List (List Key × Addr × Value),
      Paired (fun (p : List Key × V) (q : List Key × Addr × Value) => p.1 = q.1 ∧ H q.2.1 = some (.tup (p.1.map kV)) ∧ RelV p.2 q.2.2) kvs xs ∧
      ∃ o es ep, h.get? a = some o ∧ o.ExactDict ∧ o.data = .dict es ep ∧ es.toList = xs.map (entryOfKey (tupleKind (mixKind P w))) ∧ (xs.map (·.1)).Nodup
  | .set S n => h.SetOf (intKind P w) a S n
  | .ins C dx fs => H dx = some (.own a) ∧ fs.length ≤ 1000 ∧ dx ≠ a ∧ h.get? a = some (PySem.W.instObj C dx) ∧
      ∃ mA, h.Ns1 dx mA ∧ (∀ f, RelO (fs.lookup f) (mA f)) ∧ PySem.Within mA (fs.map (·.1))
  | .own _ => ∃ o, h.get? a = some o
  | .xd fs => ∃ mA, h.Ns1 a mA ∧ ∀ f, RelO (fs.lookup f) (mA f)
  | .rng lo hi => ∃ t u v, h.get? a = some { cls := .type "range", data := .fields #[.int lo t, .int hi u, .int 1 v] }
  | .frz o u => h.get? a = some o ∧ ObjOk H h a u
  | .tbl ps => h.get? a = some { cls := .none, data := .fields ps }
  | .met f x => h.get? a = some (PySem.W.methodObj (.ref f) (.ref x))
  | .ext φ => φ h ∧ (∃ o, h.get? a = some o) ∧ ∀ h1 h2 : Heap, φ h1 → (∀ o, h1.get? a = some o → h2.get? a = some o) → φ h2
/-- the abstract heap is held -/
noncomputable def HOk (H : Hp) (h : Heap) : Prop := ∀ a o, H a = some o → ObjOk P w H h a o
end

section
variable {P : Program} {w : World} {H H' : Hp} {h h' : Heap} {a : Addr} {o : HO}
theorem ObjOk.lt (x : ObjOk P w H h a o) : a < h.objs.size := by
  cases o with
  | lst xs => obtain ⟨_, _, _, _, e⟩ := x; exact Heap.lt_size e
  | tup xs => obtain ⟨_, _, _, p⟩ := x; exact p.lt
  | dK kvs => obtain ⟨_, _, _, _, o, _, _, e, _⟩ := x; exact Heap.lt_size e
  | dT kvs => obtain ⟨_, _, _, _, o, _, _, e, _⟩ := x; exact Heap.lt_size e
  | set S n => obtain ⟨o, _, _, _, e, _⟩ := x; exact Heap.lt_size e
  | ins C dx fs => obtain ⟨_, _, _, e, _⟩ := x; exact Heap.lt_size e
  | own y => obtain ⟨_, e⟩ := x; exact Heap.lt_size e
  | xd fs => obtain ⟨_, ⟨_, _, _, e, _⟩, _⟩ := x; exact Heap.lt_size e
  | rng lo hi => obtain ⟨_, _, _, e⟩ := x; exact Heap.lt_size e
  | frz ob u => obtain ⟨e, _⟩ := x; exact Heap.lt_size e
  | tbl ps => exact Heap.lt_size (show h.get? a = some _ from x)
  | met f y => exact Heap.lt_size (show h.get? a = some _ from x)
  | ext φ => obtain ⟨_, ⟨_, e⟩, _⟩ := x; exact Heap.lt_size e
theorem Paired.mapP {α β : Type} {F G : α → β → Prop} : ∀ {l₁ : List α} {l₂ : List β}, Paired F l₁ l₂ → (∀ a b, F a b → G a b) → Paired G l₁ l₂
  | _, _, .nil, _ => .nil
  | _, _, .cons r t, f => .cons (f _ _ r) (Paired.mapP t f)
/-- what an object's description leans on: its own object, its own dict, the tuples -/
theorem ObjOk.stay (x : ObjOk P w H h a o) (k : ∀ b u, (b = a ∨ H b = some (.own a)) → h.get? b = some u → h'.get? b = some u)
    (ho : ∀ b, H b = some (.own a) → H' b = some (.own a)) (ht : ∀ b xs, H b = some (.tup xs) → H' b = some (.tup xs)) : ObjOk P w H' h' a o := by
  induction o with
  | lst xs => obtain ⟨z, its, n, r, e⟩ := x; exact ⟨z, its, n, r, k _ _ (.inl rfl) e⟩
  | tup xs => obtain ⟨z, its, r, ob, e, c⟩ := x; exact ⟨z, its, r, ob, k _ _ (.inl rfl) e, c⟩
  | dK kvs => obtain ⟨z, y, vs, r, ob, es, ep, e, c⟩ := x; exact ⟨z, y, vs, r, ob, es, ep, k _ _ (.inl rfl) e, c⟩
  | dT kvs =>
    obtain ⟨z, y, xs, r, ob, es, ep, e, c⟩ := x
    exact ⟨z, y, xs, Paired.mapP r fun p q z => ⟨z.1, ht _ _ z.2.1, z.2.2⟩, ob, es, ep, k _ _ (.inl rfl) e, c⟩
  | set S n => obtain ⟨ob, es, ep, t, e, c⟩ := x; exact ⟨ob, es, ep, t, k _ _ (.inl rfl) e, c⟩
  | ins C dx fs =>
    obtain ⟨d, z, ne, e, mA, ⟨od, es, ep, e2, c⟩, r⟩ := x
    exact ⟨ho _ d, z, ne, k _ _ (.inl rfl) e, mA, ⟨od, es, ep, k _ _ (.inr d) e2, c⟩, r⟩
  | own y => obtain ⟨ob, e⟩ := x; exact ⟨ob, k _ _ (.inl rfl) e⟩
  | xd fs => obtain ⟨mA, ⟨od, es, ep, e, c⟩, r⟩ := x; exact ⟨mA, ⟨od, es, ep, k _ _ (.inl rfl) e, c⟩, r⟩
  | rng lo hi => obtain ⟨t, u, v, e⟩ := x; exact ⟨t, u, v, k _ _ (.inl rfl) e⟩
  | frz ob u ih => obtain ⟨e, q⟩ := x; exact ⟨k _ _ (.inl rfl) e, ih q⟩
  | tbl ps =>
    have e : h.get? a = some { cls := .none, data := .fields ps } := x
    show h'.get? a = some { cls := .none, data := .fields ps }
    exact k a _ (.inl rfl) e
  | met f y =>
    have e : h.get? a = some (PySem.W.methodObj (.ref f) (.ref y)) := x
    show h'.get? a = some (PySem.W.methodObj (.ref f) (.ref y))
    exact k a _ (.inl rfl) e
  | ext φ => obtain ⟨p, ⟨o, e⟩, st⟩ := x; exact ⟨st _ _ p fun o q => k _ _ (.inl rfl) q, ⟨o, k _ _ (.inl rfl) e⟩, st⟩
theorem HOk.lt (x : HOk P w H h) (e : H a = some o) : a < h.objs.size := (x a o e).lt
theorem HOk.fresh (x : HOk P w H h) (e : h.objs.size ≤ a) : H a = none := by
  cases q : H a with
  | none => rfl
  | some u => exact absurd (Nat.lt_of_lt_of_le (x.lt q) e) (Nat.lt_irrefl _)
/-- every object of the heap is kept -/
theorem HOk.kept (x : HOk P w H h) (k : ∀ b u, h.get? b = some u → h'.get? b = some u) : HOk P w H h' := fun a o e =>
  (x a o e).stay (fun b u _ q => k b u q) (fun _ q => q) fun _ _ q => q
/-- a new object is laid and tracked -/
theorem HOk.laid (x : HOk P w H h) (k : ∀ b u, h.get? b = some u → h'.get? b = some u) (hp : h.objs.size ≤ a) (new : ObjOk P w (upd H a o) h' a o) : HOk P w (upd H a o) h' := fun b u e => by
  have hn := x.fresh hp
  by_cases hb : b = a
  · subst hb; rw [upd_same] at e; cases e; exact new
  · rw [upd_ne hb] at e
    exact (x b u e).stay (fun c v _ q => k c v q) (fun c q => by rw [upd_ne (ne_of_none q hn)]; exact q) fun c xs q => by rw [upd_ne (ne_of_none q hn)]; exact q
end

/-- what may be read as u: it is u, or a known u -/
noncomputable def Rd (H : Hp) (a : Addr) (u : HO) : Prop := H a = some u ∨ ∃ o, H a = some (.frz o u)
theorem Rd.ok {P : Program} {w : World} {H : Hp} {h : Heap} {a : Addr} {u : HO} (r : Rd H a u) (x : HOk P w H h) : ObjOk P w H h a u := by
  rcases r with r | ⟨o, r⟩
  · exact x a u r
  · obtain ⟨_, q⟩ := x a _ r
    exact q
/-- what may be written -/
noncomputable def Mut : Option HO → Prop
  | some (.lst _) => True
  | some (.dK _) => True
  | some (.dT _) => True
  | some (.set _ _) => True
  | some (.ins _ _ _) => True
  | some (.ext _) => True
  | _ => False
section
variable {P : Program} {w : World} {H : Hp} {h h' : Heap} {x e : Addr} {o' : HO}
/-- the object at e is changed: x itself, or the dict of the instance x -/
theorem HOk.write (ok : HOk P w H h) (mu : Mut (H x)) (he : e = x ∨ H e = some (.own x)) (k : ∀ b u, b ≠ e → h.get? b = some u → h'.get? b = some u) (heo : ∃ u, h'.get? e = some u)
    (new : ObjOk P w (upd H x o') h' x o') : HOk P w (upd H x o') h' := fun b u q => by
  have nown : ∀ c y, H c = some (.own y) → c ≠ x := fun c y r z => by subst z; rw [r] at mu; exact mu
  have ntup : ∀ c xs, H c = some (.tup xs) → c ≠ x := fun c xs r z => by subst z; rw [r] at mu; exact mu
  by_cases hb : b = x
  · subst hb; rw [upd_same] at q; cases q; exact new
  · rw [upd_ne hb] at q
    by_cases hbe : b = e
    · have q' : H b = some (.own x) := by
        rcases he with z | z
        · exact absurd (hbe.trans z) hb
        · rw [hbe]; exact z
      rw [q] at q'; cases q'
      obtain ⟨v, hv⟩ := heo
      exact ⟨v, by rw [hbe]; exact hv⟩
    · refine (ok b u q).stay (fun c v hc r => k c v ?_ r) (fun c r => by rw [upd_ne (nown c b r)]; exact r) fun c xs r => by rw [upd_ne (ntup c xs r)]; exact r
      rcases hc with rfl | hc
      · exact hbe
      · rintro rfl
        rcases he with z | z
        · exact nown c b hc z
        · rw [hc] at z; cases z; exact hb rfl
end

/-! ### kept unless tracked; of the frames at fs (the callers') the slots may change (an exception that passes writes there); of the records at ex (iterators) nothing is said -/
structure Un (fs ex : List Addr) (H H' : Hp) (h h' : Heap) : Prop where
  keep : ∀ b o, h.get? b = some o → H b = none → b ∉ fs → b ∉ ex → h'.get? b = some o
  slot : ∀ b o, h.get? b = some o → H b = none → b ∈ fs → b ∉ ex → ∃ sl, h'.get? b = some { o with slots := sl }
  free : ∀ b o, h.get? b = some o → H b = none → b ∉ ex → H' b = none
  there : ∀ b o, h.get? b = some o → b ∉ ex → ∃ o', h'.get? b = some o'
  tups : ∀ b xs, H b = some (.tup xs) → H' b = some (.tup xs)
  frzs : ∀ b o u, H b = some (.frz o u) → H' b = some (.frz o u)
  tbls : ∀ b ps, H b = some (.tbl ps) → ∃ more, H' b = some (.tbl (ps ++ more))
section
variable {fs fs' ex ex' : List Addr} {H H1 H2 : Hp} {h h1 h2 h' : Heap} {a x e : Addr} {o : HO}
theorem Un.any (u : Un fs ex H H1 h h1) {b : Addr} {ob : Obj} (q : h.get? b = some ob) (n : H b = none) (hx : b ∉ ex) : ∃ sl, h1.get? b = some { ob with slots := sl } := by
  by_cases hb : b ∈ fs
  · exact u.slot b ob q n hb hx
  · exact ⟨ob.slots, u.keep b ob q n hb hx⟩
theorem Un.kept (k : ∀ b u, h.get? b = some u → h'.get? b = some u) : Un fs ex H H h h' :=
  ⟨fun b ob q _ _ _ => k b ob q, fun b ob q _ _ _ => ⟨ob.slots, k b ob q⟩, fun _ _ _ n _ => n, fun b ob q _ => ⟨ob, k b ob q⟩, fun _ _ q => q, fun _ _ _ q => q, fun _ ps q => ⟨#[], by rw [q]; simp⟩⟩
theorem Un.refl : Un fs ex H H h h := Un.kept fun _ _ q => q
theorem Un.laid (k : ∀ b u, h.get? b = some u → h'.get? b = some u) (hp : h.objs.size ≤ a) (hn : H a = none) : Un fs ex H (upd H a o) h h' where
  keep := fun b u q _ _ _ => k b u q
  slot := fun b u q _ _ _ => ⟨u.slots, k b u q⟩
  free := fun b u q n _ => by rw [upd_ne (Nat.ne_of_lt (Nat.lt_of_lt_of_le (Heap.lt_size q) hp))]; exact n
  there := fun b u q _ => ⟨u, k b u q⟩
  tups := fun b xs q => by rw [upd_ne (ne_of_none q hn)]; exact q
  frzs := fun b u xs q => by rw [upd_ne (ne_of_none q hn)]; exact q
  tbls := fun b ps q => ⟨#[], by rw [upd_ne (ne_of_none q hn), q]; simp⟩
theorem Un.write (mu : Mut (H x)) (he : e = x ∨ H e = some (.own x)) (k : ∀ b u, b ≠ e → h.get? b = some u → h'.get? b = some u) (heo : ∃ u, h'.get? e = some u) : Un fs ex H (upd H x o) h h' := by
  have hx : ∀ b, H b = none → b ≠ x := fun b n z => by subst z; rw [n] at mu; exact mu
  have hb : ∀ b, H b = none → b ≠ e := fun b n z => by
    subst z
    rcases he with r | r
    · exact hx b n r
    · rw [n] at r; cases r
  have hm : ∀ b u, H b = some u → ¬ Mut (some u) → b ≠ x := fun b u q nm z => by subst z; rw [q] at mu; exact nm mu
  refine ⟨fun b u q n _ _ => k b u (hb b n) q, fun b u q n _ _ => ⟨u.slots, k b u (hb b n) q⟩, fun b u q n _ => by rw [upd_ne (hx b n)]; exact n, fun b u q _ => ?_,
    fun b xs q => by rw [upd_ne (hm b _ q fun z => z)]; exact q, fun b u xs q => by rw [upd_ne (hm b _ q fun z => z)]; exact q, fun b ps q => ⟨#[], by rw [upd_ne (hm b _ q fun z => z), q]; simp⟩⟩
  by_cases hbe : b = e
  · subst hbe; exact heo
  · exact ⟨u, k b u hbe q⟩
end

/-! ### the heap without what is tracked -/
noncomputable def trk (h : Heap) (H : Hp) : List Addr := (List.range h.objs.size).filter fun a => (H a).isSome
noncomputable def hidT (h : Heap) (H : Hp) : Heap := PySem.W.hideAll h (trk h H)
theorem hidT_size (h : Heap) (H : Hp) : (hidT h H).objs.size = h.objs.size := PySem.W.hideAll_size _ _
theorem hidT_get {h : Heap} {H : Hp} {b : Addr} {o : Obj} (e : h.get? b = some o) (n : H b = none) : (hidT h H).get? b = some o :=
  PySem.W.hideAll_get _ e fun hm => by
    have q : (H b).isSome = true := (List.mem_filter.mp hm).2
    rw [n] at q; simp at q
theorem of_hidT {h : Heap} {H : Hp} {b : Addr} {o : Obj} (e : (hidT h H).get? b = some o) : h.get? b = some o ∧ H b = none := by
  have e' : h.get? b = some o := PySem.W.of_hideAll (trk h H) e
  refine ⟨e', ?_⟩
  cases q : H b with
  | none => rfl
  | some x =>
    have hm : b ∈ trk h H := List.mem_filter.mpr ⟨List.mem_range.mpr (Heap.lt_size e'), by simp [q]⟩
    have z : (hidT h H).get? b = none := PySem.W.hideAll_none (trk h H) hm
    rw [z] at e; cases e

/-! ### OpenK's ledger, filled with every new object but one -/
end L2

namespace L2
open PySem PySem.Spec PyProof.Rows

/-- the module's facts, over the base: the heap at the law's entry without what is tracked there -/
structure Mod (K : PySem.W.Frag) (mg : Str → Option Value) (base : Heap) : Prop where
  kin : K.In base
  glob : base.Ns mainGlobals mg
  blt : ∃ mb, base.Ns builtinsNs mb ∧ ∀ x : Str, x ≠ "__name__" → mb x = bootBuiltins x
  nolimit : base.NoLimit

/-- the context: a def's body (or a comprehension's block) running. base: fixed through the whole law; s₀, H₀: the entry; outer: the frames whose slots others may change (a def's callers); stack: all frames that run;
   ex: iterators that were made ahead of the entry and are walked here (a comprehension's); fn: the names whose cells were made at the entry (a def: all; a comprehension's block: its own); calm: not within an except suite; pn: pins that every state bears; xe: what is wanted of an exception that leaves the code -/
structure Cx where
  prog : Program
  w : World
  K : PySem.W.Frag
  mg : Str → Option Value
  base : Heap
  A : Around
  N : List Str
  s₀ : Shared
  H₀ : Hp
  env : Env
  outer : List Env
  stack : List Env
  ex : List Addr
  fn : Str → Bool
  calm : Bool
  pn : List (Addr × Obj)
  xe : Value → Shared → Prop
/-- the callers' frames -/
noncomputable def frs (l : List Env) : List Addr := l.filterMap (·.frame)
noncomputable abbrev Cx.fs (X : Cx) : List Addr := frs X.outer

noncomputable def Vis (sc : Scope) (x : Str) : Prop := sc.names.lookup x = some .local ∨ sc.names.lookup x = some .cell ∨ sc.names.lookup x = some .free
noncomputable def Loc (sc : Scope) (x : Str) : Prop := sc.names.lookup x = some .local ∨ sc.names.lookup x = some .cell
noncomputable def Look (env : Env) (h : Heap) (m : Str → Option Value) (x : Str) (u : Value) : Prop :=
  (env.kindOf x = some .local ∧ m x = some u) ∨ ((env.kindOf x = some .cell ∨ env.kindOf x = some .free) ∧ ∃ c, env.cells.lookup x = some c ∧ h.IsCell c (some u))

structure Cx.Ok (X : Cx) : Prop where
  mod : Mod X.K X.mg X.base
  kind : X.env.scope.kind = .function
  glob : X.env.globals = mainGlobals
  blt : X.env.builtins = builtinsNs
  above : X.s₀.heap.objs.size ≤ X.env.locals
  inj : ∀ x y c, X.env.cells.lookup x = some c → X.env.cells.lookup y = some c → x = y
  has : ∀ x, (X.env.kindOf x = some .cell ∨ X.env.kindOf x = some .free) → ∃ c, X.env.cells.lookup x = some c
  cab : ∀ x c, X.fn x = true → X.env.cells.lookup x = some c → X.s₀.heap.objs.size ≤ c
  hd : X.calm = true → X.A.handled = none
  frames : X.A.frames = some X.stack
  stk : X.stack = X.outer ∨ (X.stack = X.env :: X.outer ∧ X.env.frame = some X.env.locals)
  exf : ∀ b ∈ X.ex, b ≠ X.env.locals ∧ ∀ x c, X.env.cells.lookup x = some c → c ≠ b
  bs : ∀ b o, X.base.get? b = some o → X.s₀.heap.get? b = some o ∧ X.H₀ b = none
  bsz : X.base.objs.size ≤ X.s₀.heap.objs.size
  noex : ∀ b o, X.base.get? b = some o → b ∉ X.ex
  exfs : ∀ b ∈ X.ex, b ∉ X.fs
  funs : X.s₀.heap.FunFrames X.base X.outer
  frf : ∀ b ∈ X.fs, X.H₀ b = none

structure Inv (X : Cx) (pins : List (Addr × Obj)) (σ : List (Option V)) (H : Hp) (s : Shared) : Prop where
  ok : X.Ok
  os : s.os = X.s₀.os
  bare : AllBare s.gens
  base : Un X.fs X.ex X.H₀ H X.s₀.heap s.heap
  loc : ∃ m, s.heap.Ns X.env.locals m ∧ ∀ (i : Nat) (x : Str) (v : V), X.N[i]? = some x → σ[i]? = some (some v) → Vis X.env.scope x → ∃ u, RelV v u ∧ Look X.env s.heap m x u
  cell : ∀ x c, X.env.cells.lookup x = some c → ∃ v, s.heap.IsCell c v
  free : H X.env.locals = none
  freeC : ∀ x c, X.env.cells.lookup x = some c → H c = none
  pin : ∀ p ∈ X.pn ++ pins, s.heap.get? p.1 = some p.2 ∧ H p.1 = none ∧ p.1 ≠ X.env.locals ∧ p.1 ∉ X.fs ∧ ∀ v, p.2.data ≠ .cell v
  hok : HOk X.prog X.w H s.heap
  len : σ.length = X.N.length

section
variable {X : Cx} {pins : List (Addr × Obj)} {σ : List (Option V)} {H H' : Hp} {s : Shared} {h' : Heap}

theorem Cx.Ok.nofr (ok : X.Ok) {b : Addr} {o : Obj} (e : X.base.get? b = some o) : b ∉ X.fs := fun hb => by
  have := (ok.funs.mem hb).1
  rw [e] at this; cases this
theorem Inv.bs (I : Inv X pins σ H s) : ∀ b o, X.base.get? b = some o → s.heap.get? b = some o ∧ H b = none := fun b o e =>
  ⟨I.base.keep b o (I.ok.bs b o e).1 (I.ok.bs b o e).2 (I.ok.nofr e) (I.ok.noex b o e), I.base.free b o (I.ok.bs b o e).1 (I.ok.bs b o e).2 (I.ok.noex b o e)⟩
theorem Inv.bk (I : Inv X pins σ H s) : ∀ b o, X.base.get? b = some o → s.heap.get? b = some o := fun b o e => (I.bs b o e).1
theorem Inv.mod (I : Inv X pins σ H s) : Mod X.K X.mg X.base := I.ok.mod
theorem Inv.kIn (I : Inv X pins σ H s) : X.K.In s.heap := I.ok.mod.kin.keeps I.bk
theorem Inv.lt (I : Inv X pins σ H s) : X.env.locals < s.heap.objs.size := let ⟨_, hn, _⟩ := I.loc; hn.lt
theorem Inv.sz (I : Inv X pins σ H s) : X.s₀.heap.objs.size ≤ s.heap.objs.size := Nat.le_trans I.ok.above (Nat.le_of_lt I.lt)
theorem Inv.nofs (I : Inv X pins σ H s) {a : Addr} (h : s.heap.objs.size ≤ a) : a ∉ X.fs := fun hb => by
  obtain ⟨_, o, ho, _⟩ := I.ok.funs.mem hb
  exact absurd (Nat.lt_of_lt_of_le (Heap.lt_size ho) (Nat.le_trans I.sz h)) (Nat.lt_irrefl _)
theorem Inv.cne (I : Inv X pins σ H s) : ∀ x c, X.env.cells.lookup x = some c → c ≠ X.env.locals := fun x c e z => by
  obtain ⟨v, o, ho, hd⟩ := I.cell x c e
  obtain ⟨m, ⟨o', es, ep, ho', hd', _⟩, _⟩ := I.loc
  rw [z, ho'] at ho; cases ho; rw [hd'] at hd; cases hd
theorem Inv.funs (I : Inv X pins σ H s) : s.heap.FunFrames X.base X.outer := by
  have all : ∀ (l : List Env), (∀ b ∈ frs l, b ∈ X.fs) → X.s₀.heap.FunFrames X.base l → s.heap.FunFrames X.base l := by
    intro l
    induction l with
    | nil => intro _ _; trivial
    | cons env r ih =>
      intro hs hl
      obtain ⟨hk, ⟨L, o, hf, hn, ho, hd⟩, hr⟩ := hl
      have hL : L ∈ X.fs := hs L (by unfold frs; rw [List.filterMap_cons, hf]; exact List.mem_cons_self)
      obtain ⟨sl, e⟩ := I.base.slot L o ho (I.ok.frf L hL) hL fun z => I.ok.exfs L z hL
      exact ⟨hk, ⟨L, _, hf, hn, e, hd⟩, ih (fun b hb => hs b (by unfold frs; rw [List.filterMap_cons, hf]; exact List.mem_cons_of_mem _ hb)) hr⟩
  exact all X.outer (fun _ hb => hb) I.ok.funs

/-- the frames that run, for a call -/
theorem Inv.stack (I : Inv X pins σ H s) : s.heap.FunFrames X.base X.stack := by
  rcases I.ok.stk with e | ⟨e, hf⟩
  · rw [e]; exact I.funs
  · rw [e]
    obtain ⟨m, hn, _⟩ := I.loc
    refine .cons (by rw [I.ok.kind]; decide) hf hn ?_ I.funs
    exact Heap.get?_none_of_le (Nat.le_trans I.ok.bsz I.ok.above)
theorem Inv.stkSub (I : Inv X pins σ H s) : ∀ b ∈ frs X.stack, b ∈ X.env.locals :: X.fs := fun b hb => by
  rcases I.ok.stk with e | ⟨e, hf⟩
  · rw [e] at hb; exact List.mem_cons_of_mem _ hb
  · rw [e] at hb
    unfold frs at hb
    rw [List.filterMap_cons, hf] at hb
    exact hb
theorem Inv.stkFree (I : Inv X pins σ H s) : ∀ b ∈ frs X.stack, H b = none := fun b hb => by
  rcases List.mem_cons.mp (I.stkSub b hb) with e | hb
  · rw [e]; exact I.free
  · obtain ⟨_, o, ho, _⟩ := I.ok.funs.mem hb
    exact I.base.free b o ho (I.ok.frf b hb) fun z => I.ok.exfs b z hb

/-- THE STEP: the untracked objects but the frame and the records at ch are kept (the callers' frames up to slots), the frame's map is kept, the new abstract heap is held -/
theorem Inv.step {g' : Array GenState} {t' : Nat} {d' : Drawn} {ch : List Addr} (I : Inv X pins σ H s)
    (hch : ∀ b ∈ ch, (b ∈ X.ex ∨ X.s₀.heap.objs.size ≤ b) ∧ b ≠ X.env.locals ∧ (∀ x c, X.env.cells.lookup x = some c → c ≠ b) ∧ ∀ p ∈ X.pn ++ pins, p.1 ≠ b)
    (keep : ∀ b o, b ≠ X.env.locals → b ∉ X.fs → b ∉ ch → s.heap.get? b = some o → H b = none → h'.get? b = some o)
    (slot : ∀ b o, b ≠ X.env.locals → b ∈ X.fs → b ∉ ch → s.heap.get? b = some o → H b = none → ∃ sl, h'.get? b = some { o with slots := sl }) (free : ∀ b o, b ∉ ch → s.heap.get? b = some o → H b = none → H' b = none)
    (there : ∀ b o, b ∉ ch → s.heap.get? b = some o → ∃ o', h'.get? b = some o')
    (tups : ∀ b xs, H b = some (.tup xs) → H' b = some (.tup xs)) (frzs : ∀ b o u, H b = some (.frz o u) → H' b = some (.frz o u)) (tbls : ∀ b ps, H b = some (.tbl ps) → ∃ more, H' b = some (.tbl (ps ++ more)))
    (ns : ∀ m, s.heap.Ns X.env.locals m → h'.Ns X.env.locals m) (hok : HOk X.prog X.w H' h') (hg : AllBare g') :
    Inv X pins σ H' { s with heap := h', gens := g', drawn := d', toks := t' } := by
  have neL : ∀ b o, X.s₀.heap.get? b = some o → b ≠ X.env.locals := fun b o e => Nat.ne_of_lt (Nat.lt_of_lt_of_le (Heap.lt_size e) I.ok.above)
  have neC : ∀ b o, X.s₀.heap.get? b = some o → b ∉ X.ex → b ∉ ch := fun b o e hx hb => by
    rcases (hch b hb).1 with z | z
    · exact hx z
    · exact absurd (Nat.lt_of_lt_of_le (Heap.lt_size e) z) (Nat.lt_irrefl _)
  have cellK : ∀ x c, X.env.cells.lookup x = some c → ∀ v, s.heap.IsCell c v → h'.IsCell c v := fun x c e v ⟨o, ho, hd⟩ => by
    have nch : c ∉ ch := fun z => (hch c z).2.2.1 x c e rfl
    by_cases hc : c ∈ X.fs
    · obtain ⟨sl, q⟩ := slot c o (I.cne x c e) hc nch ho (I.freeC x c e)
      exact ⟨_, q, hd⟩
    · exact ⟨o, keep c o (I.cne x c e) hc nch ho (I.freeC x c e), hd⟩
  refine ⟨I.ok, I.os, hg, ⟨fun b o e n hb hx => ?_, fun b o e n hb hx => ?_, fun b o e n hx => ?_, fun b o e hx => ?_, fun b xs e => tups b xs (I.base.tups b xs e), fun b o xs e => frzs b o xs (I.base.frzs b o xs e), fun b ps e => ?_⟩, ?_, fun x c e => ?_, ?_, fun x c e => ?_, fun p hp => ?_, hok, I.len⟩
  · exact keep b o (neL b o e) hb (neC b o e hx) (I.base.keep b o e n hb hx) (I.base.free b o e n hx)
  · obtain ⟨sl, e1⟩ := I.base.slot b o e n hb hx
    obtain ⟨sl', e2⟩ := slot b _ (neL b o e) hb (neC b o e hx) e1 (I.base.free b o e n hx)
    exact ⟨sl', e2⟩
  · obtain ⟨o', e1⟩ := I.base.there b o e hx
    exact free b o' (neC b o e hx) e1 (I.base.free b o e n hx)
  · obtain ⟨o', e1⟩ := I.base.there b o e hx
    exact there b o' (neC b o e hx) e1
  · obtain ⟨m1, e1⟩ := I.base.tbls b ps e
    obtain ⟨m2, e2⟩ := tbls b _ e1
    exact ⟨m1 ++ m2, by rw [e2, Array.append_assoc]⟩
  · obtain ⟨m, hn, hl⟩ := I.loc
    refine ⟨m, ns m hn, fun i x v e1 e2 e3 => ?_⟩
    obtain ⟨u, r, l⟩ := hl i x v e1 e2 e3
    refine ⟨u, r, ?_⟩
    rcases l with l | ⟨k, c, e, z⟩
    · exact .inl l
    · exact .inr ⟨k, c, e, cellK x c e _ z⟩
  · obtain ⟨v, z⟩ := I.cell x c e
    exact ⟨v, cellK x c e v z⟩
  · obtain ⟨m, ⟨o, _, _, ho, _⟩, _⟩ := I.loc
    exact free _ o (fun z => (hch _ z).2.1 rfl) ho I.free
  · obtain ⟨v, o, ho, hd⟩ := I.cell x c e
    exact free c o (fun z => (hch c z).2.2.1 x c e rfl) ho (I.freeC x c e)
  · obtain ⟨e, n, ne, nf, d⟩ := I.pin p hp
    have nch : p.1 ∉ ch := fun z => (hch p.1 z).2.2.2 p hp rfl
    exact ⟨keep p.1 p.2 ne nf nch e n, free p.1 p.2 nch e n, ne, nf, d⟩
/-- .. where the frame's own object is kept too -/
theorem Inv.un {t' : Nat} (I : Inv X pins σ H s) (u : Un X.fs [] H H' s.heap h') (hok : HOk X.prog X.w H' h') : Inv X pins σ H' { s with heap := h', toks := t' } := by
  obtain ⟨m, ⟨o, es, ep, ho, r⟩, _⟩ := id I.loc
  obtain ⟨sl, hL⟩ := u.any ho I.free (by simp)
  exact I.step (g' := s.gens) (d' := s.drawn) (ch := []) (fun _ z => nomatch z) (fun b o _ hb _ e n => u.keep b o e n hb (by simp)) (fun b o _ hb _ e n => u.slot b o e n hb (by simp)) (fun b o _ e n => u.free b o e n (by simp)) (fun b o _ e => u.there b o e (by simp)) u.tups u.frzs u.tbls (fun m' hm => by
    obtain ⟨o', es', ep', ho', r'⟩ := hm
    rw [ho] at ho'; cases ho'
    exact ⟨_, es', ep', hL, r'⟩) hok I.bare
/-- behind a call (or a comprehension's block): the slots of this frame may have changed too, the records at ch may have turned -/
theorem Inv.call {g' : Array GenState} {t' : Nat} {d' : Drawn} {ch : List Addr} (I : Inv X pins σ H s) (u : Un (frs X.stack) ch H H' s.heap h') (hok : HOk X.prog X.w H' h') (hg : AllBare g')
    (hch : ∀ b ∈ ch, (b ∈ X.ex ∨ X.s₀.heap.objs.size ≤ b) ∧ b ≠ X.env.locals ∧ (∀ x c, X.env.cells.lookup x = some c → c ≠ b) ∧ ∀ p ∈ X.pn ++ pins, p.1 ≠ b) :
    Inv X pins σ H' { s with heap := h', gens := g', drawn := d', toks := t' } := by
  obtain ⟨m, ⟨o, es, ep, ho, r⟩, _⟩ := id I.loc
  obtain ⟨sl, hL⟩ := u.any ho I.free fun z => (hch _ z).2.1 rfl
  exact I.step (ch := ch) hch (fun b o hL hb hc e n => u.keep b o e n (fun z => (List.mem_cons.mp (I.stkSub b z)).elim hL hb) hc) (fun b o _ _ hc e n => u.any e n hc) (fun b o hc e n => u.free b o e n hc) (fun b o hc e => u.there b o e hc) u.tups u.frzs u.tbls (fun m' hm => by
    obtain ⟨o', es', ep', ho', r'⟩ := hm
    rw [ho] at ho'; cases ho'
    exact ⟨_, es', ep', hL, r'⟩) hok hg
/-- an untracked record of ours (an iterator) has turned -/
theorem Inv.turned {t' : Nat} {it : Addr} (I : Inv X pins σ H s) (k : ∀ b o, b ≠ it → s.heap.get? b = some o → h'.get? b = some o) (hn : H it = none) (hL : it ≠ X.env.locals)
    (h1 : it ∈ X.ex ∨ X.s₀.heap.objs.size ≤ it) (h2 : ∀ x c, X.env.cells.lookup x = some c → c ≠ it) (h3 : ∀ p ∈ X.pn ++ pins, p.1 ≠ it) : Inv X pins σ H { s with heap := h', toks := t' } := by
  have nit : ∀ b u, H b = some u → b ≠ it := fun b u e z => by rw [z, hn] at e; cases e
  refine I.step (g' := s.gens) (d' := s.drawn) (ch := [it]) (fun b hb => ?_) (fun b o _ _ hc e _ => k b o (fun z => hc (by simp [z])) e) (fun b o _ _ hc e _ => ⟨o.slots, k b o (fun z => hc (by simp [z])) e⟩) (fun _ _ _ _ n => n)
    (fun b o hc e => ⟨o, k b o (fun z => hc (by simp [z])) e⟩) (fun _ _ e => e) (fun _ _ _ e => e) (fun b ps e => ⟨#[], by rw [e]; simp⟩) (fun m hm => ?_) (fun b u e => ?_) I.bare
  · have e : b = it := by simpa using hb
    subst e
    exact ⟨h1, hL, h2, h3⟩
  · obtain ⟨o, es, ep, ho, r⟩ := hm
    exact ⟨o, es, ep, k _ o (Ne.symm hL) ho, r⟩
  · refine (I.hok b u e).stay (fun c v hc q => k c v ?_ q) (fun _ q => q) fun _ _ q => q
    rcases hc with z | z
    · rw [z]; exact nit b u e
    · exact nit c _ z
theorem Inv.tok (I : Inv X pins σ H s) (t : Nat) : Inv X pins σ H { s with toks := t } := I.un (h' := s.heap) (t' := t) Un.refl I.hok
/-- all objects kept -/
theorem Inv.kept {t' : Nat} (I : Inv X pins σ H s) (k : ∀ b u, s.heap.get? b = some u → h'.get? b = some u) : Inv X pins σ H { s with heap := h', toks := t' } := I.un (Un.kept k) (I.hok.kept k)
/-- a new object laid and tracked -/
theorem Inv.laid {a : Addr} {o : HO} {t' : Nat} (I : Inv X pins σ H s) (k : ∀ b u, s.heap.get? b = some u → h'.get? b = some u) (hp : s.heap.objs.size ≤ a) (new : ObjOk X.prog X.w (upd H a o) h' a o) :
    Inv X pins σ (upd H a o) { s with heap := h', toks := t' } := I.un (Un.laid k hp (I.hok.fresh hp)) (I.hok.laid k hp new)
/-- an object written -/
theorem Inv.write {x e : Addr} {o : HO} {t' : Nat} (I : Inv X pins σ H s) (mu : Mut (H x)) (he : e = x ∨ H e = some (.own x)) (k : ∀ b u, b ≠ e → s.heap.get? b = some u → h'.get? b = some u) (heo : ∃ u, h'.get? e = some u)
    (new : ObjOk X.prog X.w (upd H x o) h' x o) : Inv X pins σ (upd H x o) { s with heap := h', toks := t' } := I.un (Un.write mu he k heo) (I.hok.write mu he k heo new)
theorem Inv.pins_of {pins' : List (Addr × Obj)} (I : Inv X pins σ H s) (h : ∀ p ∈ pins', s.heap.get? p.1 = some p.2 ∧ H p.1 = none ∧ p.1 ≠ X.env.locals ∧ p.1 ∉ X.fs ∧ ∀ v, p.2.data ≠ .cell v) : Inv X pins' σ H s :=
  ⟨I.ok, I.os, I.bare, I.base, I.loc, I.cell, I.free, I.freeC, fun p hp => (List.mem_append.mp hp).elim (fun z => I.pin p (List.mem_append_left _ z)) (h p), I.hok, I.len⟩

theorem nodup_ix {N : List Str} (hN : N.Nodup) {i j : Nat} {x : Str} (a : N[i]? = some x) (b : N[j]? = some x) : i = j := by
  obtain ⟨h1, e1⟩ := List.getElem?_eq_some_iff.mp a
  obtain ⟨h2, e2⟩ := List.getElem?_eq_some_iff.mp b
  exact (List.getElem_inj hN).mp (e1.trans e2.symm)

/-- a name is stored; what changed -/
theorem store_ok2 {M : Model} {A : Around} {E : Value → Shared → Prop} {i : Nat} {x : Str} {v : V} {u : Value} {Q : Unit → Shared → Prop} (I : Inv X pins σ H s) (hN : X.N.Nodup) (hi : X.N[i]? = some x) (hx : Loc X.env.scope x) (r : RelV v u)
    (h : ∀ s', Inv X pins (σ.set i (some v)) H s' → (∃ a, Heap.SameBut a s.heap s'.heap ∧ (a = X.env.locals ∨ X.env.cells.lookup x = some a)) → Q () s') (hf : X.fn x = true ∨ X.env.scope.names.lookup x = some .local := by first | exact .inl rfl | exact .inr rfl | assumption) : wpAny M A (storeName X.env x u) Q E s := by
  obtain ⟨m, hn, hl⟩ := id I.loc
  have hcls : (X.env.scope.kind == .class || (X.env.scope.kind == .module && X.env.locals != X.env.globals)) = false := by rw [I.ok.kind]; rfl
  have hiσ : i < σ.length := by rw [I.len]; exact (List.getElem?_eq_some_iff.mp hi).1
  have cne := I.cne
  have tracked : ∀ {a : Addr} {h' : Heap}, (∃ o, s.heap.get? a = some o ∧ H a = none) → Heap.SameBut a s.heap h' → HOk X.prog X.w H h' := fun {a h'} ha hs b ob e => by
    obtain ⟨_, _, hfree⟩ := ha
    refine (I.hok b ob e).stay (fun c w' hc q => (hs.2 c ?_).trans q) (fun _ q => q) fun _ _ q => q
    rintro rfl
    rcases hc with rfl | hc
    · rw [hfree] at e; cases e
    · rw [hfree] at hc; cases hc
  rcases hx with hk | hk
  · refine wpAny_storeName_local hk hn (fun h' hn' hs => ?_) hcls
    obtain ⟨oL, _, _, hoL, _⟩ := id hn
    refine h _ ⟨I.ok, I.os, I.bare, ⟨fun b o e n hb hx => ?_, fun b o e n hb hx => ?_, I.base.free, fun b o e hx => ?_, I.base.tups, I.base.frzs, I.base.tbls⟩, ⟨_, hn', fun j y v' e1 e2 e3 => ?_⟩, fun y c e => ?_, I.free, I.freeC, fun p hp => ?_, tracked ⟨oL, hoL, I.free⟩ hs, by simpa using I.len⟩ ⟨_, hs, .inl rfl⟩
    · exact (hs.2 b (Nat.ne_of_lt (Nat.lt_of_lt_of_le (Heap.lt_size e) I.ok.above))).trans (I.base.keep b o e n hb hx)
    · obtain ⟨sl, e1⟩ := I.base.slot b o e n hb hx
      exact ⟨sl, (hs.2 b (Nat.ne_of_lt (Nat.lt_of_lt_of_le (Heap.lt_size e) I.ok.above))).trans e1⟩
    · obtain ⟨o', e1⟩ := I.base.there b o e hx
      exact ⟨o', (hs.2 b (Nat.ne_of_lt (Nat.lt_of_lt_of_le (Heap.lt_size e) I.ok.above))).trans e1⟩
    · by_cases hj : j = i
      · subst hj
        rw [hi] at e1; cases e1
        rw [List.getElem?_set_self hiσ] at e2
        cases e2
        exact ⟨u, r, .inl ⟨hk, by simp⟩⟩
      · rw [List.getElem?_set_ne (Ne.symm hj)] at e2
        obtain ⟨u', r', q⟩ := hl j y v' e1 e2 e3
        refine ⟨u', r', ?_⟩
        rcases q with ⟨k, e⟩ | ⟨k, c, e, z⟩
        · refine .inl ⟨k, ?_⟩
          have : y ≠ x := fun e => hj (nodup_ix hN e1 (e ▸ hi))
          simp [this, e]
        · exact .inr ⟨k, c, e, z.sameBut hs (cne y c e)⟩
    · obtain ⟨w', z⟩ := I.cell y c e
      exact ⟨w', z.sameBut hs (cne y c e)⟩
    · obtain ⟨e, n, ne, nf, d⟩ := I.pin p hp
      exact ⟨(hs.2 p.1 ne).trans e, n, ne, nf, d⟩
  · have hfn : X.fn x = true := by
      rcases hf with z | z
      · exact z
      · rw [z] at hk; cases hk
    obtain ⟨c, hc⟩ := I.ok.has x (.inl hk)
    obtain ⟨w', z⟩ := I.cell x c hc
    refine wpAny_storeName_cell I.ok.kind hk hc z (fun h' hc' hs => ?_)
    obtain ⟨oc, hoc, hocd⟩ := id z
    refine h { s with heap := h' } ⟨I.ok, I.os, I.bare, ⟨fun b o e n hb hx => ?_, fun b o e n hb hx => ?_, I.base.free, fun b o e hx => ?_, I.base.tups, I.base.frzs, I.base.tbls⟩, ⟨m, hn.sameBut hs (Ne.symm (cne x c hc)), fun j y v' e1 e2 e3 => ?_⟩, fun y c' e => ?_, I.free, I.freeC, fun p hp => ?_, tracked ⟨oc, hoc, I.freeC x c hc⟩ hs, by simpa using I.len⟩ ⟨c, hs, .inr hc⟩
    · exact (hs.2 b (Nat.ne_of_lt (Nat.lt_of_lt_of_le (Heap.lt_size e) (I.ok.cab x c hfn hc)))).trans (I.base.keep b o e n hb hx)
    · obtain ⟨sl, e1⟩ := I.base.slot b o e n hb hx
      exact ⟨sl, (hs.2 b (Nat.ne_of_lt (Nat.lt_of_lt_of_le (Heap.lt_size e) (I.ok.cab x c hfn hc)))).trans e1⟩
    · obtain ⟨o', e1⟩ := I.base.there b o e hx
      exact ⟨o', (hs.2 b (Nat.ne_of_lt (Nat.lt_of_lt_of_le (Heap.lt_size e) (I.ok.cab x c hfn hc)))).trans e1⟩
    · by_cases hj : j = i
      · subst hj
        rw [hi] at e1; cases e1
        rw [List.getElem?_set_self hiσ] at e2
        cases e2
        exact ⟨u, r, .inr ⟨.inl hk, c, hc, hc'⟩⟩
      · rw [List.getElem?_set_ne (Ne.symm hj)] at e2
        obtain ⟨u', r', q⟩ := hl j y v' e1 e2 e3
        refine ⟨u', r', ?_⟩
        rcases q with q | ⟨k, c', e, z'⟩
        · exact .inl q
        · refine .inr ⟨k, c', e, z'.sameBut hs ?_⟩
          rintro rfl
          exact hj (nodup_ix hN e1 (I.ok.inj _ _ _ e hc ▸ hi))
    · by_cases hcc : c' = c
      · subst hcc; exact ⟨_, hc'⟩
      · obtain ⟨w2, z2⟩ := I.cell y c' e
        exact ⟨w2, z2.sameBut hs hcc⟩
    · obtain ⟨e, n, ne, nf, d⟩ := I.pin p hp
      refine ⟨(hs.2 p.1 ?_).trans e, n, ne, nf, d⟩
      intro q
      rw [q, hoc] at e
      have q' : oc = p.2 := Option.some.inj e
      exact d w' (by rw [← q']; exact hocd)
theorem store_ok {M : Model} {A : Around} {E : Value → Shared → Prop} {i : Nat} {x : Str} {v : V} {u : Value} {Q : Unit → Shared → Prop} (I : Inv X pins σ H s) (hN : X.N.Nodup) (hi : X.N[i]? = some x) (hx : Loc X.env.scope x) (r : RelV v u)
    (h : ∀ s', Inv X pins (σ.set i (some v)) H s' → Q () s') (hf : X.fn x = true ∨ X.env.scope.names.lookup x = some .local := by first | exact .inl rfl | exact .inr rfl | assumption) : wpAny M A (storeName X.env x u) Q E s :=
  store_ok2 I hN hi hx r (fun s' I' _ => h s' I') hf
/-- behind a call or a block, the state as it is -/
theorem Inv.call' {s' : Shared} {ch : List Addr} (I : Inv X pins σ H s) (ho : s'.os = s.os) (u : Un (frs X.stack) ch H H' s.heap s'.heap) (hok : HOk X.prog X.w H' s'.heap) (hg : AllBare s'.gens)
    (hch : ∀ b ∈ ch, (b ∈ X.ex ∨ X.s₀.heap.objs.size ≤ b) ∧ b ≠ X.env.locals ∧ (∀ x c, X.env.cells.lookup x = some c → c ≠ b) ∧ ∀ p ∈ X.pn ++ pins, p.1 ≠ b) : Inv X pins σ H' s' := by
  obtain ⟨h', g', d', t', o'⟩ := s'
  have e : o' = s.os := ho
  subst e
  exact I.call (g' := g') (t' := t') (d' := d') u hok hg hch
end

/-! ### the judgements -/
/-- an exception: its class, its own dict's address (where it has one), the abstract heap behind it -/
noncomputable abbrev XK := Value → Option Addr → Hp → Prop
noncomputable abbrev St := List (Option V)
noncomputable abbrev VK := V → Hp → Prop
/-- an expression's reading; a test's; an argument list's -/
noncomputable abbrev TE := St → Hp → VK → Prop
noncomputable abbrev TT := St → Hp → (Bool → Hp → Prop) → Prop
noncomputable abbrev TA := St → Hp → (List V → Hp → Prop) → Prop
/-- what is wanted behind a statement -/
structure Ends where
  nx : St → Hp → Prop
  rt : VK
  bk : St → Hp → Prop := fun _ _ => False
  ct : St → Hp → Prop := fun _ _ => False
noncomputable abbrev TS := Ends → St → Hp → Prop

noncomputable def EP (X : Cx) (pins : List (Addr × Obj)) (σ : St) (Q : VK) (u : Value) (s' : Shared) : Prop := ∃ v H', Inv X pins σ H' s' ∧ RelV v u ∧ Q v H'
noncomputable def TP (X : Cx) (pins : List (Addr × Obj)) (σ : St) (Q : Bool → Hp → Prop) (b : Bool) (s' : Shared) : Prop := ∃ H', Inv X pins σ H' s' ∧ Q b H'
noncomputable def AP (X : Cx) (pins : List (Addr × Obj)) (σ : St) (Q : List V → Hp → Prop) (us : List Value) (s' : Shared) : Prop := ∃ vs H', Inv X pins σ H' s' ∧ Vals vs us ∧ Q vs H'
noncomputable def SP (X : Cx) (pins : List (Addr × Obj)) (D : Ends) (f : Flow) (s' : Shared) : Prop :=
  match f with
  | .next => ∃ σ' H', Inv X pins σ' H' s' ∧ D.nx σ' H'
  | .brk => ∃ σ' H', Inv X pins σ' H' s' ∧ D.bk σ' H'
  | .cont => ∃ σ' H', Inv X pins σ' H' s' ∧ D.ct σ' H'
  | .ret u => ∃ v σ' H', Inv X pins σ' H' s' ∧ RelV v u ∧ D.rt v H'

noncomputable def PE (X : Cx) (e : Expr) (t : TE) : Prop :=
  ∀ (pins : List (Addr × Obj)) (s : Shared) (σ : St) (H : Hp) (Q : VK), Inv X pins σ H s → t σ H Q → wpAny (model X.prog X.w) X.A (eval e X.env) (EP X pins σ Q) X.xe s
noncomputable def PT (X : Cx) (e : Expr) (t : TT) : Prop :=
  ∀ (pins : List (Addr × Obj)) (s : Shared) (σ : St) (H : Hp) (Q : Bool → Hp → Prop), Inv X pins σ H s → t σ H Q → wpAny (model X.prog X.w) X.A (isTrue e X.env (eval e X.env)) (TP X pins σ Q) X.xe s
/-- a test whatever its 'whole' is (and, or) -/
noncomputable def PW (X : Cx) (e : Expr) (t : TT) : Prop :=
  ∀ (whole : Sem Value) (pins : List (Addr × Obj)) (s : Shared) (σ : St) (H : Hp) (Q : Bool → Hp → Prop), Inv X pins σ H s → t σ H Q → wpAny (model X.prog X.w) X.A (isTrue e X.env whole) (TP X pins σ Q) X.xe s
theorem PW.pt {X : Cx} {e : Expr} {t : TT} (h : PW X e t) : PT X e t := h _
/-- an argument list (no star), from the left -/
noncomputable def PA (X : Cx) (es : List Expr) (t : TA) : Prop :=
  ∀ (pos : Pos) (pins : List (Addr × Obj)) (s : Shared) (σ : St) (H : Hp) (Q : List V → Hp → Prop), Inv X pins σ H s → t σ H Q → wpAny (model X.prog X.w) X.A (spliced (backTo pos (starEach es X.env))) (AP X pins σ Q) X.xe s
noncomputable def PS (X : Cx) (st : Stmt) (t : TS) : Prop :=
  ∀ (pins : List (Addr × Obj)) (s : Shared) (σ : St) (H : Hp) (D : Ends), Inv X pins σ H s → t D σ H → wpAny (model X.prog X.w) X.A (exec st X.env) (SP X pins D) X.xe s
noncomputable def PSs (X : Cx) (st : List Stmt) (t : TS) : Prop :=
  ∀ (pins : List (Addr × Obj)) (s : Shared) (σ : St) (H : Hp) (D : Ends), Inv X pins σ H s → t D σ H → wpAny (model X.prog X.w) X.A (execs st X.env) (SP X pins D) X.xe s
/-- weaken the end -/
theorem thn {α : Type} {t : Sem α} {Q Q' : α → Shared → Prop} {M : Model} {A : Around} {E : Value → Shared → Prop} {s : Shared} (h : wpAny M A t Q E s) (hQ : ∀ a s, Q a s → Q' a s) : wpAny M A t Q' E s := wpAny_mono h hQ fun _ _ x => x
end L2

namespace L2
open PySem PySem.Spec PyProof.Rows
section
variable {X : Cx}


/-! ### names and constants -/
noncomputable def tVar (i : Nat) : TE := fun σ H Q => ∃ v, σ[i]? = some (some v) ∧ Q v H
noncomputable def tC (v : V) : TE := fun _ H Q => Q v H
theorem pe_var {i : Nat} {x : Str} {pos : Pos} (hN : X.N[i]? = some x) (hv : Vis X.env.scope x) (hd : (x == ("__debug__" : Str)) = false := by decide) (hcd : (x == ("__classdict__" : Str)) = false := by decide) : PE X (.Name x pos) (tVar i) := by
  intro pins s σ H Q I h
  obtain ⟨v, e, h⟩ := h
  obtain ⟨m, hn, hl⟩ := I.loc
  obtain ⟨u, r, l⟩ := hl i x v hN e hv
  have fin : EP X pins σ Q u s := ⟨v, H, I, r, h⟩
  rcases l with ⟨hk, hm⟩ | ⟨hk, c, hc, hcell⟩
  · exact wpAny_Name (wpAny_loadName_local I.ok.kind hk hn hm fin) hd
  · rcases hk with hk | hk
    · exact wpAny_Name (wpAny_loadName_cell I.ok.kind hk hc hcell fin) hd
    · exact wpAny_Name (wpAny_loadName_free I.ok.kind hk hc hcell fin hcd) hd
theorem pe_int {i j pos} : PE X (.Constant (.int i) j pos) (tC (.int i)) := fun _ _ _ H _ I h => wpAny_Constant_int ⟨.int i, H, I.tok _, ⟨_, rfl⟩, h⟩
theorem pe_bl {b j pos} : PE X (.Constant (.bool b) j pos) (tC (.bl b)) := fun _ _ _ H _ I h => Constant_bool ⟨.bl b, H, I, rfl, h⟩
theorem pe_non {j pos} : PE X (.Constant .none j pos) (tC .non) := fun _ _ _ H _ I h => Constant_none ⟨.non, H, I, rfl, h⟩
theorem pe_str {x j pos} : PE X (.Constant (.str x) j pos) (tC (.str x)) := fun _ _ _ H _ I h => Calls.Constant_str ⟨.str x, H, I.tok _, ⟨_, rfl⟩, h⟩

/-- a global name of the def -/
noncomputable def Gl (X : Cx) (x : Str) : Prop := X.env.kindOf x = some .globalImplicit
theorem ld_glob {E : Value → Shared → Prop} {pins : List (Addr × Obj)} {s : Shared} {σ : St} {H : Hp} {x : Str} {u : Value} {pos : Pos} {Q : Value → Shared → Prop} (I : Inv X pins σ H s) (hg : Gl X x) (hm : X.mg x = some u) (h : Q u s)
    (hd : (x == ("__debug__" : Str)) = false := by decide) : wpAny (model X.prog X.w) X.A (eval (.Name x pos) X.env) Q E s :=
  Calls.Name_function_global I.ok.kind hg (Calls.loadGlobal_global (by rw [I.ok.glob]; exact I.mod.glob.keeps I.bk) hm h) hd
theorem ld_blt {E : Value → Shared → Prop} {pins : List (Addr × Obj)} {s : Shared} {σ : St} {H : Hp} {x : Str} {u : Value} {pos : Pos} {Q : Value → Shared → Prop} (I : Inv X pins σ H s) (hg : Gl X x) (hm : X.mg x = none) (hv : bootBuiltins x = some u) (h : Q u s)
    (hn : x ≠ "__name__" := by decide) (hd : (x == ("__debug__" : Str)) = false := by decide) : wpAny (model X.prog X.w) X.A (eval (.Name x pos) X.env) Q E s := by
  obtain ⟨mb, h1, h2⟩ := I.mod.blt
  exact Calls.Name_function_global I.ok.kind hg (Calls.loadGlobal_builtin (by rw [I.ok.glob]; exact I.mod.glob.keeps I.bk) hm (by rw [I.ok.blt]; exact h1.keeps I.bk) ((h2 x hn).trans hv) h) hd
/-- a module's constant, a class, a function, as a value -/
theorem pe_glob {x : Str} {v : V} {u : Value} {pos : Pos} (hg : Gl X x) (hm : X.mg x = some u) (r : RelV v u) (hd : (x == ("__debug__" : Str)) = false := by decide) : PE X (.Name x pos) (tC v) :=
  fun _ _ _ H _ I h => ld_glob I hg hm ⟨v, H, I, r, h⟩ hd
theorem pe_bltn {x : Str} {v : V} {u : Value} {pos : Pos} (hg : Gl X x) (hm : X.mg x = none) (hv : bootBuiltins x = some u) (r : RelV v u) (hn : x ≠ "__name__" := by decide) (hd : (x == ("__debug__" : Str)) = false := by decide) : PE X (.Name x pos) (tC v) :=
  fun _ _ _ H _ I h => ld_blt I hg hm hv ⟨v, H, I, r, h⟩ hn hd

/-! ### arithmetic -/
variable {a b : Expr} {ta tb : TE} {pos : Pos}

/-! ### comparisons -/
noncomputable def PC (X : Cx) (op : CmpOp) (a b : Expr) (t : TE) : Prop :=
  ∀ (pins : List (Addr × Obj)) (s : Shared) (σ : St) (H : Hp) (Q : VK), Inv X pins σ H s → t σ H Q →
    wpAny (model X.prog X.w) X.A (eval a X.env) (fun v s₁ => wpAny (model X.prog X.w) X.A (eval b X.env) (fun u s₂ => wpAny (model X.prog X.w) X.A (compareOp op v u) (EP X pins σ Q) X.xe s₂) X.xe s₁) X.xe s
/-- a comparison as a value, as a test -/
noncomputable def tB (t : TE) : TT := fun σ H Q => t σ H fun x H1 => ∃ c, x = .bl c ∧ Q c H1
theorem pt_cmp {op : CmpOp} {t : TE} (h : PC X op a b t) (h1 : behindInMarks op b = false := by first | exact nobehind _ (by decide) (by decide) | rfl) : PT X (.Compare a [op] [b] pos) (tB t) := by
  intro pins s σ H Q I hw
  refine wpAny_isTrue_Compare1 (thn (h pins s σ H _ I hw) fun v s1 h1 => thn h1 fun u s2 h2 => thn h2 fun c s3 ⟨x, H1, I1, r1, q1⟩ => ?_) h1
  obtain ⟨d, rfl, q⟩ := q1
  cases r1
  exact wpAny_truthy_bool ⟨H1, I1, q⟩
/-- an expression whose value is a bool, as a test -/
theorem pt_val {e : Expr} {t : TE} (h : PE X e t) (he : ∀ whole, isTrue e X.env whole = (do let v ← whole; standAt e.pos; holding [v] (truthy v)) := by intro _; rfl) : PT X e (tB t) := by
  intro pins s σ H Q I hw
  refine isTrue_plain (thn (h pins s σ H _ I hw) fun v s1 ⟨x, H1, I1, r1, q1⟩ => ?_) (he _)
  obtain ⟨d, rfl, q⟩ := q1
  cases r1
  exact wpAny_truthy_bool ⟨H1, I1, q⟩

/-! ### and, or, not -/
variable {tA tB' : TT} {rest : List Expr}
noncomputable def tAnd (t u : TT) : TT := fun σ H Q => t σ H fun c H1 => if c = true then u σ H1 Q else Q false H1
noncomputable def tOr (t u : TT) : TT := fun σ H Q => t σ H fun c H1 => if c = true then Q true H1 else u σ H1 Q
noncomputable def tNot (t : TT) : TT := fun σ H Q => t σ H fun c H1 => Q (!c) H1
theorem pw_and1 (ha : PT X a tA) : PW X (.BoolOp .And [a] pos) tA := by
  intro wh pins s σ H Q I h
  refine isTrue_and (thn (ha pins s σ H Q I h) fun c s1 e => ?_)
  cases c with
  | true => exact isTrue_and_nil e
  | false => exact e
theorem pw_or1 (ha : PT X a tA) : PW X (.BoolOp .Or [a] pos) tA := by
  intro wh pins s σ H Q I h
  refine isTrue_or (thn (ha pins s σ H Q I h) fun c s1 e => ?_)
  cases c with
  | false => exact isTrue_or_nil e
  | true => exact e
theorem pw_and (ha : PT X a tA) (hb : PW X (.BoolOp .And (b :: rest) pos) tB') : PW X (.BoolOp .And (a :: b :: rest) pos) (tAnd tA tB') := by
  intro wh pins s σ H Q I h
  refine isTrue_and (thn (ha pins s σ H _ I h) fun c s1 ⟨H1, I1, q1⟩ => ?_)
  cases c with
  | true => exact hb wh pins s1 σ H1 Q I1 q1
  | false => exact ⟨H1, I1, q1⟩
theorem pw_or (ha : PT X a tA) (hb : PW X (.BoolOp .Or (b :: rest) pos) tB') : PW X (.BoolOp .Or (a :: b :: rest) pos) (tOr tA tB') := by
  intro wh pins s σ H Q I h
  refine isTrue_or (thn (ha pins s σ H _ I h) fun c s1 ⟨H1, I1, q1⟩ => ?_)
  cases c with
  | true => exact ⟨H1, I1, q1⟩
  | false => exact hb wh pins s1 σ H1 Q I1 q1
theorem pt_not (ha : PT X a tA) : PT X (.UnaryOp .Not a pos) (tNot tA) := by
  intro pins s σ H Q I h
  exact isTrue_not (ha pins s σ H (fun c H1 => Q (!c) H1) I h)
/-- .. as values (bools) -/
noncomputable def tAndV (ta tb : TE) : TE := fun σ H Q => ta σ H fun x H1 => ∃ c, x = .bl c ∧ if c = true then tb σ H1 Q else Q (.bl false) H1
noncomputable def tOrV (ta tb : TE) : TE := fun σ H Q => ta σ H fun x H1 => ∃ c, x = .bl c ∧ if c = true then Q (.bl true) H1 else tb σ H1 Q
noncomputable def tNotV (ta : TE) : TE := fun σ H Q => ta σ H fun x H1 => ∃ c, x = .bl c ∧ Q (.bl (!c)) H1
theorem pe_one {op} {t : TE} (h : PE X a t) : PE X (.BoolOp op [a] pos) t := fun pins s σ H Q I hw => BoolOp_one (h pins s σ H Q I hw)
theorem pe_and (ha : PE X a ta) (hb : PE X (.BoolOp .And (b :: rest) pos) tb) : PE X (.BoolOp .And (a :: b :: rest) pos) (tAndV ta tb) := by
  intro pins s σ H Q I h
  refine BoolOp_and (thn (ha pins s σ H _ I h) fun v s1 ⟨x, H1, I1, r1, q1⟩ => ?_)
  obtain ⟨c, rfl, q1⟩ := q1
  cases r1
  refine wpAny_truthy_bool ?_
  cases c with
  | true => exact hb pins s1 σ H1 Q I1 q1
  | false => exact ⟨.bl false, H1, I1, rfl, q1⟩
theorem pe_or (ha : PE X a ta) (hb : PE X (.BoolOp .Or (b :: rest) pos) tb) : PE X (.BoolOp .Or (a :: b :: rest) pos) (tOrV ta tb) := by
  intro pins s σ H Q I h
  refine BoolOp_or (thn (ha pins s σ H _ I h) fun v s1 ⟨x, H1, I1, r1, q1⟩ => ?_)
  obtain ⟨c, rfl, q1⟩ := q1
  cases r1
  refine wpAny_truthy_bool ?_
  cases c with
  | false => exact hb pins s1 σ H1 Q I1 q1
  | true => exact ⟨.bl true, H1, I1, rfl, q1⟩
theorem pe_not (ha : PE X a ta) : PE X (.UnaryOp .Not a pos) (tNotV ta) := by
  intro pins s σ H Q I h
  refine UnaryOp_ (thn (ha pins s σ H _ I h) fun v s1 ⟨x, H1, I1, r1, q1⟩ => ?_)
  obtain ⟨c, rfl, q1⟩ := q1
  cases r1
  exact not_of (wpAny_truthy_bool ⟨.bl (!c), H1, I1, rfl, q1⟩)
/-- a if t else b -/
noncomputable def tIf (t : TT) (ta tb : TE) : TE := fun σ H Q => t σ H fun c H1 => if c = true then ta σ H1 Q else tb σ H1 Q
theorem pe_ifExp {c : Expr} (hc : PT X c tA) (ha : PE X a ta) (hb : PE X b tb) : PE X (.IfExp c a b pos) (tIf tA ta tb) := by
  intro pins s σ H Q I h
  refine wpAny_IfExp (thn (hc pins s σ H _ I h) fun d s1 ⟨H1, I1, q1⟩ => ?_)
  cases d with
  | true => exact ha pins s1 σ H1 Q I1 q1
  | false => exact hb pins s1 σ H1 Q I1 q1
end
end L2

namespace L2
open PySem PySem.Spec PyProof.Rows

/-! ### a list, a tuple that is read: tracked, frozen, or an object of the module -/
noncomputable def SqL (K : PySem.W.Frag) (H : Hp) (a : Addr) (xs : List V) : Prop :=
  Rd H a (.lst xs) ∨
    ∃ (o : Obj) (its : Array Value) (n : Nat), K.lookup a = some o ∧ o.cls = .type "list" ∧ o.dict = none ∧ o.data = .seq its n ∧ its.size ≤ sizeLine ∧ Vals xs its.toList
noncomputable def SqT (K : PySem.W.Frag) (H : Hp) (a : Addr) (xs : List V) : Prop :=
  Rd H a (.tup xs) ∨
    ∃ (o : Obj) (its : Array Value) (n : Nat), K.lookup a = some o ∧ o.cls = .type "tuple" ∧ o.data = .seq its n ∧ its.size ≤ sizeLine ∧ Vals xs its.toList
noncomputable def absV : Value → Option V
  | .none => some .non
  | .bool b => some (.bl b)
  | .int i _ => some (.int i)
  | .str x _ => some (.str x)
  | .bytes b _ => some (.byt b)
  | .float b _ => some (.flt b)
  | .ref a => some (.ref a)
  | .type n => some (.ty n)
  | _ => none
theorem RelV.abs {x : V} {u : Value} (r : RelV x u) : absV u = some x := by
  cases x with
  | non => cases r; rfl
  | bl _ => cases r; rfl
  | int _ => obtain ⟨t, rfl⟩ := r; rfl
  | str _ => obtain ⟨t, rfl⟩ := r; rfl
  | byt _ => obtain ⟨t, rfl⟩ := r; rfl
  | flt _ => obtain ⟨t, rfl⟩ := r; rfl
  | ref _ => cases r; rfl
  | ty _ => cases r; rfl
theorem RelV.inj {x y : V} {u : Value} (r : RelV x u) (q : RelV y u) : x = y := Option.some.inj (r.abs.symm.trans q.abs)
theorem Vals.inj : ∀ {xs ys : List V} {us : List Value}, Vals xs us → Vals ys us → xs = ys
  | _, _, _, .nil, .nil => rfl
  | _, _, _, .cons r t, .cons r' t' => by rw [r.inj r', Vals.inj t t']
section
variable {X : Cx} {pins : List (Addr × Obj)} {σ : St} {H : Hp} {s : Shared} {a : Addr} {xs ys : List V}
theorem SqL.of {K : PySem.W.Frag} (h : H a = some (.lst xs)) : SqL K H a xs := .inl (.inl h)
theorem SqT.of {K : PySem.W.Frag} (h : H a = some (.tup xs)) : SqT K H a xs := .inl (.inl h)
theorem Inv.list (I : Inv X pins σ H s) (h : SqL X.K H a xs) : ∃ its : List Value, Vals xs its ∧ PlainL s.heap a its.toArray ∧ xs.length ≤ sizeLine := by
  rcases h with h | ⟨o, its, n, hk, hc, hd, hs, hz, r⟩
  · obtain ⟨z, its, n, r, e⟩ := h.ok I.hok
    exact ⟨its, r, ⟨_, n, e, rfl, rfl, rfl⟩, z⟩
  · refine ⟨its.toList, r, ⟨o, n, I.kIn a o hk, hc, hd, by simpa using hs⟩, ?_⟩
    have e := r.length
    simp only [Array.length_toList] at e
    omega
theorem Inv.tuple (I : Inv X pins σ H s) (h : SqT X.K H a xs) : ∃ its : List Value, Vals xs its ∧ IsTup s.heap a its.toArray ∧ xs.length ≤ sizeLine := by
  rcases h with h | ⟨o, its, n, hk, hc, hs, hz, r⟩
  · obtain ⟨z, its, r, p⟩ := h.ok I.hok
    exact ⟨its, r, p, z⟩
  · refine ⟨its.toList, r, ⟨o, I.kIn a o hk, hc, n, by simpa using hs⟩, ?_⟩
    have e := r.length
    simp only [Array.length_toList] at e
    omega
theorem Inv.list_inj (I : Inv X pins σ H s) (h : SqL X.K H a xs) (h' : SqL X.K H a ys) : xs = ys := by
  obtain ⟨its, r, ⟨o, n, e, _, _, d⟩, _⟩ := I.list h
  obtain ⟨its', r', ⟨o', n', e', _, _, d'⟩, _⟩ := I.list h'
  rw [e] at e'; cases e'
  rw [d] at d'
  injection d' with d1 _
  have : its = its' := by simpa using congrArg Array.toList d1
  subst this
  exact r.inj r'
end

/-! ### another wish about exceptions -/
noncomputable abbrev Cx.wish (X : Cx) (E : Value → Shared → Prop) : Cx := { X with xe := E }
/-- no exception leaves -/
noncomputable abbrev Cx.nox (X : Cx) : Cx := X.wish fun _ _ => False
theorem Cx.Ok.wish {X : Cx} (ok : X.Ok) (E : Value → Shared → Prop) : (X.wish E).Ok :=
  ⟨ok.mod, ok.kind, ok.glob, ok.blt, ok.above, ok.inj, ok.has, ok.cab, ok.hd, ok.frames, ok.stk, ok.exf, ok.bs, ok.bsz, ok.noex, ok.exfs, ok.funs, ok.frf⟩
theorem Cx.Ok.unwish {X : Cx} {E : Value → Shared → Prop} (ok : (X.wish E).Ok) : X.Ok :=
  ⟨ok.mod, ok.kind, ok.glob, ok.blt, ok.above, ok.inj, ok.has, ok.cab, ok.hd, ok.frames, ok.stk, ok.exf, ok.bs, ok.bsz, ok.noex, ok.exfs, ok.funs, ok.frf⟩
section
variable {X : Cx} {pins : List (Addr × Obj)} {σ : St} {H : Hp} {s : Shared} {E : Value → Shared → Prop}
theorem Inv.wish (I : Inv X pins σ H s) (E : Value → Shared → Prop) : Inv (X.wish E) pins σ H s := ⟨I.ok.wish E, I.os, I.bare, I.base, I.loc, I.cell, I.free, I.freeC, I.pin, I.hok, I.len⟩
theorem Inv.unwish (I : Inv (X.wish E) pins σ H s) : Inv X pins σ H s := ⟨I.ok.unwish, I.os, I.bare, I.base, I.loc, I.cell, I.free, I.freeC, I.pin, I.hok, I.len⟩
theorem SP.unwish {D : Ends} {f : Flow} {s' : Shared} (h : SP (X.wish E) pins D f s') : SP X pins D f s' := by
  cases f with
  | next => obtain ⟨σ', H', I, q⟩ := h; exact ⟨σ', H', I.unwish, q⟩
  | brk => obtain ⟨σ', H', I, q⟩ := h; exact ⟨σ', H', I.unwish, q⟩
  | cont => obtain ⟨σ', H', I, q⟩ := h; exact ⟨σ', H', I.unwish, q⟩
  | ret u => obtain ⟨v, σ', H', I, r, q⟩ := h; exact ⟨v, σ', H', I.unwish, r, q⟩
theorem PSs.nox {st : List Stmt} {t : TS} (h : PSs X.nox st t) : PSs X st t := fun pins s σ H D I hw =>
  wpAny_mono (h pins s σ H D (I.wish _) hw) (fun _ _ q => q.unwish) fun _ _ z => False.elim z
end

/-! ### blocks and small statements -/
section
variable {X : Cx} {st : Stmt} {rest : List Stmt} {t u : TS} {e : Expr} {te : TE} {pos : Pos}
noncomputable def tNext : TS := fun D σ H => D.nx σ H
noncomputable def tSeq (t u : TS) : TS := fun D σ H => t { D with nx := u D } σ H
theorem pss_nil : PSs X [] tNext := fun _ _ σ H _ I h => wpAny_execs_nil ⟨σ, H, I, h⟩
theorem pss_cons (h1 : PS X st t) (h2 : PSs X rest u) : PSs X (st :: rest) (tSeq t u) := by
  intro pins s σ H D I h
  refine wpAny_execs_cons (thn (h1 pins s σ H { D with nx := u D } I h) fun f s1 q => ?_)
  cases f with
  | next =>
    obtain ⟨σ', H', I', q⟩ := q
    exact h2 pins s1 σ' H' D I' q
  | ret v => exact q
  | brk => exact q
  | cont => exact q
theorem pss_one (h1 : PS X st t) : PSs X [st] t := by
  intro pins s σ H D I h
  refine wpAny_execs_cons (thn (h1 pins s σ H D I h) fun f s1 q => ?_)
  cases f with
  | next => exact wpAny_execs_nil q
  | ret v => exact q
  | brk => exact q
  | cont => exact q
/-- in a def's body nothing is shown -/
theorem Inv.quiet {pins : List (Addr × Obj)} {σ : St} {H : Hp} {s : Shared} (I : Inv X pins σ H s) : interactive X.env = false := by simp [interactive, I.ok.kind]
/-- an expression whose value is dropped -/
noncomputable def tDrop (te : TE) : TS := fun D σ H => te σ H fun _ H1 => D.nx σ H1
theorem ps_expr (he : PE X e te) (hs : swapsWith e none pos.line X.env = pure false := by rfl) : PS X (.Expr e pos) (tDrop te) := by
  intro pins s σ H D I h
  exact wpAny_Expr_any (thn (he pins s σ H _ I h) fun v s1 ⟨x, H1, I1, r1, q1⟩ => ⟨σ, H1, I1, q1⟩) I.quiet hs
noncomputable def tRet (te : TE) : TS := fun D σ H => te σ H D.rt
theorem ps_ret (he : PE X e te) : PS X (.Return (some e) pos) (tRet te) := by
  intro pins s σ H D I h
  exact wpAny_Return_some (thn (he pins s σ H _ I h) fun v s1 ⟨x, H1, I1, r1, q1⟩ => ⟨x, σ, H1, I1, r1, q1⟩)
noncomputable def tIfS (c : TT) (t u : TS) : TS := fun D σ H => c σ H fun b H1 => if b = true then t D σ H1 else u D σ H1
theorem ps_if {c : Expr} {a b : List Stmt} {tc : TT} (hc : PT X c tc) (ha : PSs X a t) (hb : PSs X b u) : PS X (.If c a b pos) (tIfS tc t u) := by
  intro pins s σ H D I h
  refine wpAny_If (thn (hc pins s σ H _ I h) fun d s1 ⟨H1, I1, q1⟩ => ?_)
  cases d with
  | true => exact ha pins s1 σ H1 D I1 q1
  | false => exact hb pins s1 σ H1 D I1 q1
end

/-! ### targets -/
noncomputable abbrev TG := V → St → Hp → (St → Hp → Prop) → Prop
noncomputable abbrev TGs := List V → St → Hp → (St → Hp → Prop) → Prop
noncomputable def PG (X : Cx) (target : Expr) (t : TG) : Prop :=
  ∀ (pins : List (Addr × Obj)) (s : Shared) (σ : St) (H : Hp) (v : V) (u : Value) (Q : St → Hp → Prop), Inv X pins σ H s → RelV v u → t v σ H Q →
    wpAny (model X.prog X.w) X.A (assign target X.env u) (fun _ s' => ∃ σ' H', Inv X pins σ' H' s' ∧ Q σ' H') X.xe s
/-- several targets, one after another -/
noncomputable def PGs (X : Cx) (ts : List Expr) (t : TGs) : Prop :=
  ∀ (pins : List (Addr × Obj)) (s : Shared) (σ : St) (H : Hp) (vs : List V) (us : List Value) (Q : St → Hp → Prop), Inv X pins σ H s → Vals vs us → t vs σ H Q →
    wpAny (model X.prog X.w) X.A (assignInOrder ((assignEach ts X.env).map (·.2)) us) (fun _ s' => ∃ σ' H', Inv X pins σ' H' s' ∧ Q σ' H') X.xe s
/-- o[i] = v, by values -/
noncomputable abbrev TSet := V → V → V → Hp → (Hp → Prop) → Prop
noncomputable def PSet (X : Cx) (t : TSet) : Prop :=
  ∀ (pins : List (Addr × Obj)) (s : Shared) (σ : St) (H : Hp) (o i v : V) (ov iv u : Value) (Q : Hp → Prop), Inv X pins σ H s → RelV o ov → RelV i iv → RelV v u → t o i v H Q →
    wpAny (model X.prog X.w) X.A (setItem ov iv u) (fun _ s' => ∃ H', Inv X pins σ H' s' ∧ Q H') X.xe s
section
variable {X : Cx} {pos : Pos}
noncomputable def gName (i : Nat) : TG := fun v σ H Q => Q (σ.set i (some v)) H
theorem pg_name {i : Nat} {x : Str} (hN : X.N.Nodup) (hi : X.N[i]? = some x) (hx : Loc X.env.scope x) (hf : X.fn x = true ∨ X.env.scope.names.lookup x = some .local := by first | exact .inl rfl | exact .inr rfl | assumption) : PG X (.Name x pos) (gName i) := by
  intro pins s σ H v u Q I r h
  exact wpAny_assign_Name (store_ok I hN hi hx r (fun s' I' => ⟨_, H, I', h⟩) hf)
noncomputable def gNil : TGs := fun vs σ H Q => vs = [] ∧ Q σ H
noncomputable def gCons (t : TG) (u : TGs) : TGs := fun vs σ H Q => ∃ v r, vs = v :: r ∧ t v σ H fun σ' H' => u r σ' H' Q
theorem pgs_nil : PGs X [] gNil := by
  intro pins s σ H vs us Q I r h
  obtain ⟨e, h⟩ := h
  subst e
  cases r
  exact assignInOrder_nil ⟨σ, H, I, h⟩
theorem pgs_cons {e : Expr} {es : List Expr} {t : TG} {u : TGs} (h1 : PG X e t) (h2 : PGs X es u)
    (hs : (assignEach (e :: es) X.env).map (·.2) = assign e X.env :: (assignEach es X.env).map (·.2) := by rfl) : PGs X (e :: es) (gCons t u) := by
  intro pins s σ H vs us Q I r h
  obtain ⟨v, vr, e1, h⟩ := h
  subst e1
  cases r with
  | cons r rr =>
    rw [hs]
    refine assignInOrder_cons (thn (h1 pins s σ H _ _ _ I r h) fun _ s1 ⟨σ1, H1, I1, q1⟩ => ?_)
    exact h2 pins s1 σ1 H1 _ _ Q I1 rr q1
/-- (a, b, ..) = a tuple of that length -/
noncomputable def gTup (K : PySem.W.Frag) (n : Nat) (t : TGs) : TG := fun v σ H Q => ∃ a xs, v = .ref a ∧ SqT K H a xs ∧ xs.length = n ∧ t xs σ H Q
theorem pg_tup {es : List Expr} {k : Nat} {t : TGs} {n : Nat} (hc : X.calm = true) (h : PGs X es t)
    (hn : (assignEach es X.env).length = n := by rfl) (hst : (assignEach es X.env).findIdx? (·.1) = none := by rfl) : PG X (.Tuple es k pos) (gTup X.K n t) := by
  intro pins s σ H v u Q I r hw
  obtain ⟨a, xs, e1, hq, hl, hw⟩ := hw
  subst e1
  cases r
  obtain ⟨its, rv, ht, hz⟩ := I.tuple hq
  refine assign_Tuple_tuple (I.ok.hd hc) ht (by simp [hn, ← hl, rv.length]) hst fun h' hx => ?_
  have I1 : Inv X pins σ H { s with heap := h' } := I.kept (t' := s.toks) fun b o e => hx b o (Nat.ne_of_lt (Heap.lt_size e)) e
  exact h pins _ σ H xs _ Q I1 (by simpa using rv) hw
/-- o[i] = .. -/
noncomputable def gSub (to ti : TE) (t : TSet) : TG := fun v σ H Q => to σ H fun o H1 => ti σ H1 fun i H2 => t o i v H2 fun H3 => Q σ H3
theorem pg_sub {o i : Expr} {to ti : TE} {t : TSet} (ho : PE X o to) (hi : PE X i ti) (hs : PSet X t)
    (ha : ∀ v, assign (.Subscript o i pos) X.env v = (do
      let ov ← holding [v] (eval o X.env)
      let iv ← holding [v, ov] (eval i X.env)
      standAt pos
      holding [v, ov, iv] (setItem ov iv v)
      release [v, ov, iv] []) := by intro _; rfl) : PG X (.Subscript o i pos) (gSub to ti t) := by
  intro pins s σ H v u Q I r h
  rw [ha]
  refine wpAny_bind (wpAny_holding (thn (ho pins s σ H _ I h) fun ov s1 ⟨x, H1, I1, r1, q1⟩ => ?_))
  refine wpAny_bind (wpAny_holding (thn (hi pins s1 σ H1 _ I1 q1) fun iv s2 ⟨y, H2, I2, r2, q2⟩ => ?_))
  refine wpAny_bind (wpAny_standAt (wpAny_bind (wpAny_holding (thn (hs pins s2 σ H2 x y v ov iv u _ I2 r1 r2 r q2) fun _ s3 ⟨H3, I3, q3⟩ => ?_))))
  exact wpAny_release ⟨σ, H3, I3, q3⟩
/-- target = value -/
noncomputable def tAsg (te : TE) (g : TG) : TS := fun D σ H => te σ H fun x H1 => g x σ H1 D.nx
theorem ps_asg {tg e : Expr} {te : TE} {g : TG} (he : PE X e te) (hg : PG X tg g) (hs : swapsWithSole [tg] e pos.line X.env = pure false := by rfl) (hw : swappedStores [tg] e X.env = pure none := by rfl)
    (h1 : (assignEach [tg] X.env).map (·.2) = [assign tg X.env] := by rfl) : PS X (.Assign [tg] e pos) (tAsg te g) := by
  intro pins s σ H D I h
  refine wpAny_Assign_stores (thn (he pins s σ H _ I h) fun v s1 ⟨x, H1, I1, r1, q1⟩ => ?_) hs hw
  rw [h1]
  exact thn (hg pins s1 σ H1 x v _ I1 r1 q1) fun _ s2 q => q
/-- name = value -/
theorem ps_set {i : Nat} {x : Str} {e : Expr} {te : TE} {pos' : Pos} (hN : X.N.Nodup) (hi : X.N[i]? = some x) (hx : Loc X.env.scope x) (he : PE X e te) (hs : swapsWith e (some (.Name x pos')) pos.line X.env = pure false := by rfl) (hf : X.fn x = true ∨ X.env.scope.names.lookup x = some .local := by first | exact .inl rfl | exact .inr rfl | assumption) :
    PS X (.Assign [.Name x pos'] e pos) (tAsg te (gName i)) := by
  intro pins s σ H D I h
  refine wpAny_Assign_Name (thn (he pins s σ H _ I h) fun v s1 ⟨y, H1, I1, r1, q1⟩ => ?_) hs
  exact store_ok I1 hN hi hx r1 (fun s2 I2 => ⟨_, H1, I2, q1⟩) hf
end

/-! ### while -/
section
variable {X : Cx} {pos : Pos}
/-- the invariant W with its measure -/
noncomputable def tWhile (c : TT) (tb : TS) : TS := fun D σ H => ∃ W : Nat → St → Hp → Prop, (∃ m, W m σ H) ∧ ∀ m σ H, W m σ H →
  c σ H fun b H1 => if b = true then ∃ N : St → Hp → Prop, (∀ σ' H', N σ' H' → ∃ m', m' < m ∧ W m' σ' H') ∧ tb { D with nx := N, ct := N, bk := D.nx } σ H1 else D.nx σ H1
theorem ps_while {c : Expr} {body : List Stmt} {tc : TT} {tb : TS} (hp : PassesOwn (model X.prog X.w) X.A X.env X.xe) (hc : PT X c tc) (hb : PSs X body tb) : PS X (.While c body [] pos) (tWhile tc tb) := by
  intro pins s σ H D I h
  obtain ⟨W, ⟨m0, w0⟩, turn⟩ := h
  refine wpAny_While (codeAny_whileLoop (fun n s' => ∃ σ' H', Inv X pins σ' H' s' ∧ W n σ' H') ?_ m0 ⟨σ, H, I, w0⟩)
  rintro n s1 ⟨σ1, H1, I1, w1⟩
  refine wpAny_passesOwn hp (thn (hc pins s1 σ1 H1 _ I1 (turn n σ1 H1 w1)) fun b s2 ⟨H2, I2, q2⟩ => ?_)
  cases b with
  | true =>
    obtain ⟨N, hN, q2⟩ := q2
    rw [if_pos rfl]
    refine wpAny_passesOwn hp (thn (hb pins s2 σ1 H2 _ I2 q2) fun f s3 q3 => ?_)
    cases f with
    | next =>
      obtain ⟨σ3, H3, I3, n3⟩ := q3
      obtain ⟨m', hm, w3⟩ := hN σ3 H3 n3
      exact ⟨m', hm, σ3, H3, I3, w3⟩
    | cont =>
      obtain ⟨σ3, H3, I3, n3⟩ := q3
      obtain ⟨m', hm, w3⟩ := hN σ3 H3 n3
      exact ⟨m', hm, σ3, H3, I3, w3⟩
    | brk => exact q3
    | ret v => exact q3
  | false =>
    rw [if_neg Bool.false_ne_true]
    exact wpAny_execs_nil ⟨σ1, H2, I2, q2⟩
end

/-! ### what a loop or a comprehension walks -/
/-- at turn i: it yields x (the heap may grow), or it stops -/
structure It where
  go : Nat → Hp → Prop
  yld : Nat → Hp → V → Hp → Prop
  stop : Nat → Hp → Prop
/-- the iterator's own objects may turn: they are not the frame's, not pinned, younger than the entry (or a comprehension's own) -/
noncomputable def FpOk (X : Cx) (pins : List (Addr × Obj)) (H : Hp) (b : Addr) : Prop :=
  H b = none ∧ b ≠ X.env.locals ∧ b ∉ X.fs ∧ (b ∈ X.ex ∨ X.s₀.heap.objs.size ≤ b) ∧ (∀ x c, X.env.cells.lookup x = some c → c ≠ b) ∧ ∀ p ∈ X.pn ++ pins, p.1 ≠ b
theorem Inv.fpOk {X : Cx} {pins : List (Addr × Obj)} {σ : St} {H H' : Hp} {s : Shared} {b : Addr} (I : Inv X pins σ H s) (hb : s.heap.objs.size ≤ b) (hn : H' b = none) : FpOk X pins H' b := by
  refine ⟨hn, Nat.ne_of_gt (Nat.lt_of_lt_of_le I.lt hb), I.nofs hb, .inr (Nat.le_trans I.sz hb), fun x c e z => ?_, fun p hp z => ?_⟩
  · obtain ⟨v, q⟩ := I.cell x c e
    exact absurd (Nat.lt_of_lt_of_le q.lt (by rw [z]; exact hb)) (Nat.lt_irrefl _)
  · exact absurd (Nat.lt_of_lt_of_le (Heap.lt_size (I.pin p hp).1) (by rw [z]; exact hb)) (Nat.lt_irrefl _)
structure Turn (P : Program) (w : World) (K : PySem.W.Frag) (tg : Expr) (J : It) (fp : List Addr) (it : Addr) (tn : Nat → Heap → Prop) : Prop where
  mem : it ∈ fp
  obj : ∀ i h, tn i h → ∀ b ∈ fp, ∃ o, h.get? b = some o ∧ ∀ v, o.data ≠ .cell v
  keep : ∀ i h h', tn i h → (∀ b ∈ fp, ∀ o, h.get? b = some o → h'.get? b = some o) → tn i h'
  item : ∀ (X : Cx), X.prog = P → X.w = w → X.K = K → X.calm = true → ∀ (i : Nat) (pins : List (Addr × Obj)) (s : Shared) (σ : St) (H : Hp) (E : Value → Shared → Prop), Inv X pins σ H s → (∀ b ∈ fp, FpOk X pins H b) → tn i s.heap → J.go i H →
    wpAny (model P w) X.A (pyNext (.ref it)) (fun r s1 => ∃ u, r = some u ∧
      wpAny (model P w) X.A (letOwnedTupleGo tg (.ref it) u) (fun _ s2 => ∃ x H', Inv X pins σ H' s2 ∧ RelV x u ∧ J.yld i H x H' ∧ tn (i + 1) s2.heap ∧ ∀ b ∈ fp, H' b = none) E s1) E s
  done : ∀ (X : Cx), X.prog = P → X.w = w → X.K = K → X.calm = true → ∀ (i : Nat) (pins : List (Addr × Obj)) (s : Shared) (σ : St) (H : Hp) (E : Value → Shared → Prop), Inv X pins σ H s → (∀ b ∈ fp, FpOk X pins H b) → tn i s.heap → J.stop i H →
    wpAny (model P w) X.A (pyNext (.ref it)) (fun r s1 => r = none ∧ Inv X pins σ H s1) E s
  self : ∀ (A : Around) (i : Nat) (s : Shared) (Q : Value → Shared → Prop) (E : Value → Shared → Prop), tn i s.heap → Q (.ref it) s → wpAny (model P w) A (pyIter (.ref it)) Q E s
noncomputable abbrev TI := St → Hp → (It → Hp → Prop) → Prop
/-- an iterator has come -/
noncomputable def PIE (X : Cx) (pins : List (Addr × Obj)) (σ : St) (tg : Expr) (R : It → Hp → Prop) (itv : Value) (s2 : Shared) : Prop :=
  ∃ (it : Addr) (fp : List Addr) (tn : Nat → Heap → Prop) (J : It) (H' : Hp), itv = .ref it ∧ Inv X pins σ H' s2 ∧ Turn X.prog X.w X.K tg J fp it tn ∧ tn 0 s2.heap ∧ (∀ b ∈ fp, FpOk X pins H' b) ∧ R J H'
noncomputable def PI (X : Cx) (tg iter : Expr) (wi : TI) : Prop :=
  ∀ (pins : List (Addr × Obj)) (s : Shared) (σ : St) (H : Hp) (R : It → Hp → Prop), Inv X pins σ H s → wi σ H R →
    wpAny (model X.prog X.w) X.A (eval iter X.env) (fun v s1 => wpAny (model X.prog X.w) X.A (pyIter v) (PIE X pins σ tg R) X.xe s1) X.xe s

/-- the step ahead of the store is nothing for an iterator that keeps no tuple -/
theorem go_of {M : Model} {A : Around} {E : Value → Shared → Prop} {s : Shared} {tg : Expr} {it : Addr} {u : Value} {o : Obj} {n : String} {vs : Array Value} {Q : Unit → Shared → Prop} (ho : s.heap.get? it = some o) (hc : o.cls = .type n) (hd : o.data = .fields vs)
    (hn : ["enumerate", "zip", "dict_itemiterator", "dict_reverseitemiterator", "odict_iterator", "itertools.zip_longest", "itertools.pairwise"].contains n = false) (hQ : Q () s) : wpAny M A (letOwnedTupleGo tg (.ref it) u) Q E s := by
  unfold letOwnedTupleGo
  cases tg <;> first
    | exact wpAny_pure hQ
    | (cases u <;> first
        | exact wpAny_pure hQ
        | (refine wpAny_bind (wpAny_load ho ?_)
           rw [hc, hd]
           show wpAny M A (if (["enumerate", "zip", "dict_itemiterator", "dict_reverseitemiterator", "odict_iterator", "itertools.zip_longest", "itertools.pairwise"].contains n && vs[0]? == some (rawInt _)) = true then _ else _) Q E s
           rw [if_neg (by intro h; rw [hn, Bool.false_and] at h; cases h)]
           exact wpAny_pure hQ))

/-- the list at a, as it stands at each turn (a loop may append to it) -/
noncomputable def Itl (K : PySem.W.Frag) (a : Addr) : It :=
  ⟨fun i H => ∃ xs x, SqL K H a xs ∧ xs[i]? = some x, fun i H x H' => H' = H ∧ ∀ xs, SqL K H a xs → xs[i]? = some x, fun i H => ∃ xs, SqL K H a xs ∧ xs.length ≤ i⟩
/-- lo, lo + 1, .. (n of them) -/
noncomputable def Itr (lo : Int) (n : Nat) : It := ⟨fun i _ => i < n, fun i H x H' => H' = H ∧ x = .int (lo + i), fun i _ => n ≤ i⟩
theorem turn_list {P : Program} {w : World} {K : PySem.W.Frag} {tg : Expr} (a it : Addr) : Turn P w K tg (Itl K a) [it] it (fun i h => h.IsListIter it a i) where
  mem := by simp
  obj := fun i h st b hb => by
    have e : b = it := by simpa using hb
    subst e
    obtain ⟨o, e, c, d⟩ := st
    exact ⟨o, e, fun v z => by rw [d] at z; cases z⟩
  keep := fun i h h' st k => st.at fun o e => k it (by simp) o e
  item := by
    intro X hP hw hK hc i pins s σ H E I hf st hg
    subst hP hw hK
    obtain ⟨xs, x, hq, hx⟩ := hg
    obtain ⟨its, rv, p, hz⟩ := I.list hq
    obtain ⟨u, hu, ru⟩ := rv.get hx
    obtain ⟨f0, f1, f2, f3, f4, f5⟩ := hf it (by simp)
    refine wpAny_pyNext_list_item st p.isList (x := u) (by simpa using hu) fun h' st' sb => ?_
    have I1 : Inv X pins σ H { s with heap := h' } := I.turned (t' := s.toks) (fun b o hb e => (sb.2 b hb).trans e) f0 f1 f3 f4 f5
    obtain ⟨o, e, c, d⟩ := id st'
    exact ⟨u, rfl, go_of (s := { s with heap := h' }) e c d (by decide) ⟨x, H, I1, ru, ⟨rfl, fun ys hy => by rw [I.list_inj hy hq]; exact hx⟩, st', fun b hb => (hf b hb).1⟩⟩
  done := by
    intro X hP hw hK hc i pins s σ H E I hf st hg
    subst hP hw hK
    obtain ⟨xs, hq, hx⟩ := hg
    obtain ⟨its, rv, p, hz⟩ := I.list hq
    obtain ⟨f0, f1, f2, f3, f4, f5⟩ := hf it (by simp)
    have hl := rv.length
    exact wpAny_pyNext_list_end (I.ok.hd hc) st p.isList (by simp; omega) fun h' eb => ⟨rfl, I.turned (t' := s.toks) (fun b o hb e => eb b o hb e) f0 f1 f3 f4 f5⟩
  self := fun _ _ _ _ _ st h => wpAny_pyIter_listiter st h
theorem turn_range {P : Program} {w : World} {K : PySem.W.Frag} {tg : Expr} (it : Addr) (lo : Int) (n : Nat) : Turn P w K tg (Itr lo n) [it] it (fun i h => IsRangeIter h it (lo + (i : Nat) * 1) ((n : Int) - (i : Nat)) 1) where
  mem := by simp
  obj := fun i h st b hb => by
    have e : b = it := by simpa using hb
    subst e
    exact ⟨_, st, fun v z => by
      have z' : Data.fields _ = Data.cell v := z
      cases z'⟩
  keep := fun i h h' st k => k it (by simp) _ st
  item := by
    intro X hP hw hK hc i pins s σ H E I hf st hg
    subst hP hw hK
    obtain ⟨f0, f1, f2, f3, f4, f5⟩ := hf it (by simp)
    have W := Walks.range (prog := X.prog) (w := X.w) (I.ok.hd hc) it lo 1 n
    refine W.item i s _ _ hg st fun v h' tk hv st' kk => ?_
    obtain ⟨t, rfl⟩ := hv
    have I1 : Inv X pins σ H { s with heap := h', toks := tk } := I.turned (fun b o hb e => kk b o (by simpa using hb) e) f0 f1 f3 f4 f5
    refine ⟨_, rfl, go_of (s := { s with heap := h', toks := tk }) (n := "range_iterator") st' rfl rfl (by decide) ⟨.int (lo + i), H, I1, ⟨t, ?_⟩, ⟨rfl, rfl⟩, st', fun b hb => (hf b hb).1⟩⟩
    rw [Int.mul_one]
  done := by
    intro X hP hw hK hc i pins s σ H E I hf st hg
    subst hP hw hK
    obtain ⟨f0, f1, f2, f3, f4, f5⟩ := hf it (by simp)
    exact wpAny_pyNext_range_end (I.ok.hd hc) st (by have : n ≤ i := hg; omega) fun h' eb => ⟨rfl, I.turned (t' := s.toks) (fun b o hb e => eb b o hb e) f0 f1 f3 f4 f5⟩
  self := fun _ _ _ _ _ st h => wpAny_pyIter_rangeiter st h
end L2

namespace L2
open PySem PySem.Spec PyProof.Rows
section
variable {X : Cx} {tg : Expr}
noncomputable def iList (K : PySem.W.Frag) (tl : TE) : TI := fun σ H R => tl σ H fun x H1 => ∃ a, x = .ref a ∧ (∃ xs, SqL K H1 a xs) ∧ R (Itl K a) H1
theorem pi_list {l : Expr} {tl : TE} (hl : PE X l tl) : PI X tg l (iList X.K tl) := by
  intro pins s σ H R I h
  refine thn (hl pins s σ H _ I h) fun v s1 ⟨x, H1, I1, r1, q1⟩ => ?_
  obtain ⟨a, e, ⟨xs, hq⟩, q⟩ := q1
  subst e
  cases r1
  obtain ⟨its, rv, p, hz⟩ := I1.list hq
  refine wpAny_pyIter_list p.isList ?_
  refine ⟨s1.heap.objs.size, [s1.heap.objs.size], _, _, H1, rfl, I1.kept (t' := s1.toks) fun b o e => Heap.get?_push_of_some _ e, turn_list a _, ⟨_, Heap.get?_push_size _ rfl, rfl, rfl⟩, fun b hb => ?_, q⟩
  have e : b = s1.heap.objs.size := by simpa using hb
  subst e
  exact I1.fpOk (Nat.le_refl _) (I1.hok.fresh (Nat.le_refl _))
/-- a range object just made, walked -/
theorem range_it {pins : List (Addr × Obj)} {σ : St} {H : Hp} {s : Shared} {R : It → Hp → Prop} {E : Value → Shared → Prop} {lo hi : Int} {t u v : Tok} {tk : Nat} (I : Inv X pins σ H s) (h1 : -(2 ^ 62) ≤ lo) (h2 : lo < 2 ^ 62) (h3 : -(2 ^ 62) ≤ hi) (h4 : hi < 2 ^ 62)
    (q : R (Itr lo (hi - lo).toNat) H) : wpAny (model X.prog X.w) X.A (pyIter (.ref s.heap.objs.size)) (PIE X pins σ tg R) E { s with heap := s.heap.push { cls := .type "range", data := .fields #[.int lo t, .int hi u, .int 1 v] }, toks := tk } := by
  refine wpAny_pyIter_range (IsRange.new ..) (small_one h1 h2 h3 h4) ?_
  have I1 : Inv X pins σ H { s with heap := s.heap.push { cls := .type "range", data := .fields #[.int lo t, .int hi u, .int 1 v] }, toks := tk } := I.kept fun b o e => Heap.get?_push_of_some _ e
  refine ⟨(s.heap.push { cls := .type "range", data := .fields #[.int lo t, .int hi u, .int 1 v] }).objs.size, [(s.heap.push { cls := .type "range", data := .fields #[.int lo t, .int hi u, .int 1 v] }).objs.size], _, _, H, rfl,
    I1.kept (t' := tk) fun b o e => Heap.get?_push_of_some _ e, turn_range _ lo (hi - lo).toNat, ?_, fun b hb => ?_, q⟩
  · have e1 : lo + ((0 : Nat) : Int) * 1 = lo := by simp
    have e2 : (((hi - lo).toNat : Nat) : Int) - ((0 : Nat) : Int) = Builtin.Range.rangeSize lo hi 1 := by rw [rangeSize_one]; split <;> omega
    show IsRangeIter _ _ (lo + ((0 : Nat) : Int) * 1) ((((hi - lo).toNat : Nat) : Int) - ((0 : Nat) : Int)) 1
    rw [e1, e2]
    exact Heap.get?_push_size _ rfl
  · have e : b = (s.heap.push { cls := .type "range", data := .fields #[.int lo t, .int hi u, .int 1 v] }).objs.size := by simpa using hb
    subst e
    exact I1.fpOk (Nat.le_refl _) (I1.hok.fresh (Nat.le_refl _))
noncomputable def iRng1 (ta : TA) : TI := fun σ H R => ta σ H fun vs H1 => ∃ j : Int, vs = [.int j] ∧ -(2 ^ 62) ≤ j ∧ j < 2 ^ 62 ∧ R (Itr 0 j.toNat) H1
theorem pi_range1 {a : Expr} {ta : TA} {p pos : Pos} (hg : Gl X "range") (hm : X.mg "range" = none) (ha : PA X [a] ta) (hs : starEach [a] X.env = [(false, eval a X.env)] := by rfl) : PI X tg (.Call (.Name "range" p) [a] [] pos) (iRng1 ta) := by
  intro pins s σ H R I h
  refine Call_ (ld_blt I hg hm boot_range (PyProof.Rows.callWith_type1 (thn (ha pos pins s σ H _ I h) fun us s1 ⟨vs, H1, I1, r1, q1⟩ => ?_) hs rfl))
  obtain ⟨j, e, q1, q2, q⟩ := q1
  subst e
  cases r1 with
  | cons r rr =>
    cases rr
    obtain ⟨t, rfl⟩ := r
    exact call_range_1 (range_it I1 (by omega) (by omega) q1 q2 (by simpa using q))

/-! ### for -/
/-- W: the invariant by the turn and a measure; N: what the body is to reach -/
noncomputable def tFor (wi : TI) (g : TG) (tb : TS) : TS := fun D σ H => wi σ H fun J H1 => ∃ W : Nat → Nat → St → Hp → Prop, (∃ m, W 0 m σ H1) ∧ ∀ i m σ H, W i m σ H →
  (J.stop i H ∧ D.nx σ H) ∨ (J.go i H ∧ ∃ N : St → Hp → Prop, (∀ σ' H', N σ' H' → ∃ m', m' < m ∧ W (i + 1) m' σ' H') ∧ ∀ x H', J.yld i H x H' → g x σ H' fun σ2 H2 => tb { D with nx := N, ct := N, bk := D.nx } σ2 H2)
/-- the records at fp as they stand -/
noncomputable def pinsAt (fp : List Addr) (h : Heap) : List (Addr × Obj) := fp.filterMap fun b => (h.get? b).map fun o => (b, o)
theorem mem_pinsAt {fp : List Addr} {h : Heap} {b : Addr} {o : Obj} (hb : b ∈ fp) (e : h.get? b = some o) : (b, o) ∈ pinsAt fp h := List.mem_filterMap.mpr ⟨b, hb, by rw [e]; rfl⟩
theorem of_pinsAt {fp : List Addr} {h : Heap} {p : Addr × Obj} (hp : p ∈ pinsAt fp h) : p.1 ∈ fp ∧ h.get? p.1 = some p.2 := by
  obtain ⟨b, hb, e⟩ := List.mem_filterMap.mp hp
  cases q : h.get? b with
  | none => rw [q] at e; cases e
  | some o =>
    rw [q] at e
    have e' : (b, o) = p := Option.some.inj e
    subst e'
    exact ⟨hb, q⟩
theorem Inv.pinned {pins : List (Addr × Obj)} {σ : St} {H : Hp} {s : Shared} {fp : List Addr} (I : Inv X pins σ H s) (hf : ∀ b ∈ fp, FpOk X pins H b) (ho : ∀ b ∈ fp, ∃ o, s.heap.get? b = some o ∧ ∀ v, o.data ≠ .cell v) : Inv X (pins ++ pinsAt fp s.heap) σ H s :=
  I.pins_of fun p hp => (List.mem_append.mp hp).elim (fun z => I.pin p (List.mem_append_right _ z)) fun z => by
    obtain ⟨hb, e⟩ := of_pinsAt z
    obtain ⟨f0, f1, f2, _⟩ := hf p.1 hb
    obtain ⟨o, e', d⟩ := ho p.1 hb
    rw [e] at e'; cases e'
    exact ⟨e, f0, f1, f2, d⟩
theorem Inv.unpinned {pins pl : List (Addr × Obj)} {σ : St} {H : Hp} {s : Shared} (I : Inv X (pins ++ pl) σ H s) : Inv X pins σ H s := I.pins_of fun p hp => I.pin p (List.mem_append_right _ (List.mem_append_left _ hp))
theorem ps_for {iter : Expr} {body : List Stmt} {wi : TI} {g : TG} {tb : TS} {pos : Pos} (hp : PassesOwn (model X.prog X.w) X.A X.env X.xe) (hc : X.calm = true) (hi : PI X tg iter wi) (hg : PG X tg g) (hb : PSs X body tb)
    (hs : ∀ x, foldedSetIterable iter X.env x = pure x := by intro _; rfl) : PS X (.For tg iter body [] pos) (tFor wi g tb) := by
  intro pins s σ H D I h
  refine wpAny_For (thn (hi pins s σ H _ I h) fun v s1 h1 => thn h1 fun itv s2 h2 => ?_) hs
  obtain ⟨it, fp, tn, J, H2, e, I2, T, st2, f2, W, ⟨m0, w0⟩, turn⟩ := h2
  subst e
  -- what stays true of the iterator's objects through the loop
  have stat : ∀ {H' : Hp}, (∀ b ∈ fp, H' b = none) → ∀ b ∈ fp, FpOk X pins H' b := fun hn b hb => ⟨hn b hb, (f2 b hb).2⟩
  refine codeAny_forLoop_any (fun n s' => ∃ i σ' H', Inv X pins σ' H' s' ∧ tn i s'.heap ∧ (∀ b ∈ fp, H' b = none) ∧ W i n σ' H') ?_ m0 ⟨0, σ, H2, I2, st2, fun b hb => (f2 b hb).1, w0⟩
  rintro n s3 ⟨i, σ3, H3, I3, st3, fr3, w3⟩
  rcases turn i n σ3 H3 w3 with ⟨stop, qn⟩ | ⟨go, N, hN, step⟩
  · refine wpAny_passesOwn hp (thn (T.done X rfl rfl rfl hc i pins s3 σ3 H3 X.xe I3 (stat fr3) st3 stop) fun r s4 ⟨hr, I4⟩ => ?_)
    subst hr
    exact wpAny_execs_nil ⟨σ3, H3, I4, qn⟩
  · refine wpAny_passesOwn hp (thn (T.item X rfl rfl rfl hc i pins s3 σ3 H3 X.xe I3 (stat fr3) st3 go) fun r s4 ⟨u, hr, h4⟩ => ?_)
    subst hr
    refine wpAny_passesOwn hp (thn h4 fun _ s5 ⟨x, H5, I5, r5, y5, st5, fr5⟩ => ?_)
    have I5' := I5.pinned (stat fr5) (T.obj _ _ st5)
    refine wpAny_passesOwn hp (thn (hg _ s5 σ3 H5 x u _ I5' r5 (step x H5 y5)) fun _ s6 ⟨σ6, H6, I6, q6⟩ => ?_)
    refine wpAny_passesOwn hp (thn (hb _ s6 σ6 H6 _ I6 q6) fun f s7 q7 => ?_)
    have again : ∀ {σ7 : St} {H7 : Hp}, Inv X (pins ++ pinsAt fp s5.heap) σ7 H7 s7 → N σ7 H7 → ∃ m, m < n ∧ ∃ i σ' H', Inv X pins σ' H' s7 ∧ tn i s7.heap ∧ (∀ b ∈ fp, H' b = none) ∧ W i m σ' H' := fun {σ7 H7} I7 n7 => by
      obtain ⟨m', hm, w7⟩ := hN σ7 H7 n7
      refine ⟨m', hm, i + 1, σ7, H7, I7.unpinned, T.keep _ _ _ st5 fun b hb o e => (I7.pin (b, o) (List.mem_append_right _ (List.mem_append_right _ (mem_pinsAt hb e)))).1, fun b hb => ?_, w7⟩
      obtain ⟨o, e, d⟩ := T.obj _ _ st5 b hb
      exact (I7.pin (b, o) (List.mem_append_right _ (List.mem_append_right _ (mem_pinsAt hb e)))).2.1
    cases f with
    | next => obtain ⟨σ7, H7, I7, n7⟩ := q7; exact again I7 n7
    | cont => obtain ⟨σ7, H7, I7, n7⟩ := q7; exact again I7 n7
    | brk => obtain ⟨σ7, H7, I7, q7⟩ := q7; exact ⟨σ7, H7, I7.unpinned, q7⟩
    | ret v => obtain ⟨x7, σ7, H7, I7, r7, q7⟩ := q7; exact ⟨x7, σ7, H7, I7.unpinned, r7, q7⟩
end

/-! ### the forms one uses -/
/-- over a list that the body leaves as it is -/
theorem for_list {K : PySem.W.Frag} {a : Addr} {xs : List V} {g : TG} {tb : TS} {D : Ends} {σ : St} {H : Hp} (Pv : Nat → St → Hp → Prop) (h0 : Pv 0 σ H) (hl : ∀ i σ H, i ≤ xs.length → Pv i σ H → SqL K H a xs)
    (hs : ∀ i x σ H, xs[i]? = some x → Pv i σ H → g x σ H fun σ2 H2 => tb { D with nx := Pv (i + 1), ct := Pv (i + 1), bk := D.nx } σ2 H2) (hd : ∀ σ H, Pv xs.length σ H → D.nx σ H) :
    ∃ W : Nat → Nat → St → Hp → Prop, (∃ m, W 0 m σ H) ∧ ∀ i m σ H, W i m σ H →
      ((Itl K a).stop i H ∧ D.nx σ H) ∨ ((Itl K a).go i H ∧ ∃ N : St → Hp → Prop, (∀ σ' H', N σ' H' → ∃ m', m' < m ∧ W (i + 1) m' σ' H') ∧ ∀ x H', (Itl K a).yld i H x H' → g x σ H' fun σ2 H2 => tb { D with nx := N, ct := N, bk := D.nx } σ2 H2) := by
  refine ⟨fun i m σ H => m = xs.length - i ∧ i ≤ xs.length ∧ Pv i σ H, ⟨xs.length, by simp, Nat.zero_le _, h0⟩, ?_⟩
  rintro i m σ H ⟨rfl, hi, p⟩
  have q := hl i σ H hi p
  by_cases hlt : i < xs.length
  · refine .inr ⟨⟨xs, xs[i], q, by simp [hlt]⟩, Pv (i + 1), fun σ' H' p' => ⟨xs.length - (i + 1), by omega, rfl, hlt, p'⟩, fun x H' y => ?_⟩
    obtain ⟨e, y⟩ := y
    subst e
    exact hs i x σ _ (y xs q) p
  · have e : i = xs.length := by omega
    subst e
    exact .inl ⟨⟨xs, q, Nat.le_refl _⟩, hd σ H p⟩
theorem for_range {lo : Int} {n : Nat} {g : TG} {tb : TS} {D : Ends} {σ : St} {H : Hp} (Pv : Nat → St → Hp → Prop) (h0 : Pv 0 σ H)
    (hs : ∀ i σ H, i < n → Pv i σ H → g (.int (lo + i)) σ H fun σ2 H2 => tb { D with nx := Pv (i + 1), ct := Pv (i + 1), bk := D.nx } σ2 H2) (hd : ∀ σ H, Pv n σ H → D.nx σ H) :
    ∃ W : Nat → Nat → St → Hp → Prop, (∃ m, W 0 m σ H) ∧ ∀ i m σ H, W i m σ H →
      ((Itr lo n).stop i H ∧ D.nx σ H) ∨ ((Itr lo n).go i H ∧ ∃ N : St → Hp → Prop, (∀ σ' H', N σ' H' → ∃ m', m' < m ∧ W (i + 1) m' σ' H') ∧ ∀ x H', (Itr lo n).yld i H x H' → g x σ H' fun σ2 H2 => tb { D with nx := N, ct := N, bk := D.nx } σ2 H2) := by
  refine ⟨fun i m σ H => m = n - i ∧ i ≤ n ∧ Pv i σ H, ⟨n, by simp, Nat.zero_le _, h0⟩, ?_⟩
  rintro i m σ H ⟨rfl, hi, p⟩
  by_cases hlt : i < n
  · refine .inr ⟨hlt, Pv (i + 1), fun σ' H' p' => ⟨n - (i + 1), by omega, rfl, hlt, p'⟩, fun x H' y => ?_⟩
    obtain ⟨e, y⟩ := y
    subst e y
    exact hs i σ _ hlt p
  · have e : i = n := by omega
    subst e
    exact .inl ⟨Nat.le_refl _, hd σ H p⟩
end L2

namespace L2
open PySem PySem.Spec PyProof.Rows

noncomputable abbrev R2 := V → V → Hp → VK → Prop
/-- a two-place operation on values: f is binaryOp op, inplaceOp op or compareOp op -/
noncomputable def OpR (X : Cx) (f : Value → Value → Sem Value) (r : R2) : Prop :=
  ∀ (pins : List (Addr × Obj)) (s : Shared) (σ : St) (H : Hp) (x y : V) (v u : Value) (Q : VK), Inv X pins σ H s → RelV x v → RelV y u → r x y H Q →
    wpAny (model X.prog X.w) X.A (f v u) (EP X pins σ Q) X.xe s
/-- a one-place operation -/
noncomputable def UnR (X : Cx) (f : Value → Sem Value) (r : V → Hp → VK → Prop) : Prop :=
  ∀ (pins : List (Addr × Obj)) (s : Shared) (σ : St) (H : Hp) (x : V) (v : Value) (Q : VK), Inv X pins σ H s → RelV x v → r x H Q →
    wpAny (model X.prog X.w) X.A (f v) (EP X pins σ Q) X.xe s
/-- a call of a value that is known (a builtin, a type) with values -/
noncomputable def CallR (X : Cx) (f : Value) (r : List V → Hp → VK → Prop) : Prop :=
  ∀ (pins : List (Addr × Obj)) (s : Shared) (σ : St) (H : Hp) (xs : List V) (us : List Value) (Q : VK), Inv X pins σ H s → Vals xs us → r xs H Q →
    wpAny (model X.prog X.w) X.A (call f us) (EP X pins σ Q) X.xe s
/-- a value's truth -/
noncomputable def TruR (X : Cx) (r : V → Hp → (Bool → Hp → Prop) → Prop) : Prop :=
  ∀ (pins : List (Addr × Obj)) (s : Shared) (σ : St) (H : Hp) (x : V) (v : Value) (Q : Bool → Hp → Prop), Inv X pins σ H s → RelV x v → r x H Q →
    wpAny (model X.prog X.w) X.A (truthy v) (TP X pins σ Q) X.xe s

noncomputable def tOp (r : R2) (ta tb : TE) : TE := fun σ H Q => ta σ H fun x H1 => tb σ H1 fun y H2 => r x y H2 Q
noncomputable def tUn (r : V → Hp → VK → Prop) (ta : TE) : TE := fun σ H Q => ta σ H fun x H1 => r x H1 Q
/-- ints in, under C, and a value out -/
noncomputable def rI (C : Int → Int → Prop) (g : Int → Int → V) : R2 := fun x y H Q => ∃ i j, x = .int i ∧ y = .int j ∧ C i j ∧ Q (g i j) H
noncomputable def rI0 (g : Int → Int → V) : R2 := fun x y H Q => ∃ i j, x = .int i ∧ y = .int j ∧ Q (g i j) H
noncomputable def rU (g : Int → V) : V → Hp → VK → Prop := fun x H Q => ∃ i, x = .int i ∧ Q (g i) H

section
variable {X : Cx} {a b c : Expr} {ta tb tc : TE} {pos : Pos}

theorem binT (ha : PE X a ta) (hb : PE X b tb) {pins : List (Addr × Obj)} {s : Shared} {σ : St} {H : Hp} {R : V → V → Hp → Prop} (I : Inv X pins σ H s)
    (h : ta σ H fun x H1 => tb σ H1 fun y H2 => R x y H2) {Q : Value → Shared → Prop} {f : Value → Value → Sem Value}
    (hf : ∀ v u s2 x y H2, Inv X pins σ H2 s2 → RelV x v → RelV y u → R x y H2 → wpAny (model X.prog X.w) X.A (f v u) Q X.xe s2) :
    wpAny (model X.prog X.w) X.A (eval a X.env) (fun v s₁ => wpAny (model X.prog X.w) X.A (eval b X.env) (fun u s₂ => wpAny (model X.prog X.w) X.A (f v u) Q X.xe s₂) X.xe s₁) X.xe s := by
  refine thn (ha pins s σ H _ I h) fun v s1 ⟨x, H1, I1, r1, q1⟩ => ?_
  refine thn (hb pins s1 σ H1 _ I1 q1) fun u s2 ⟨y, H2, I2, r2, q2⟩ => ?_
  exact hf v u s2 x y H2 I2 r1 r2 q2

theorem pe_op {op : Operator} {r : R2} (ho : OpR X (binaryOp op) r) (ha : PE X a ta) (hb : PE X b tb) : PE X (.BinOp a op b pos) (tOp r ta tb) := by
  intro pins s σ H Q I h
  exact wpAny_BinOp (binT ha hb I h fun v u s2 x y H2 I2 rx ry q => ho pins s2 σ H2 x y v u Q I2 rx ry q)
theorem pe_un {op : UnaryOp} {r : V → Hp → VK → Prop} (ho : UnR X (unaryOp op) r) (ha : PE X a ta) : PE X (.UnaryOp op a pos) (tUn r ta) := by
  intro pins s σ H Q I h
  exact UnaryOp_ (thn (ha pins s σ H _ I h) fun v s1 ⟨x, H1, I1, r1, q1⟩ => ho pins s1 σ H1 x v Q I1 r1 q1)

/-! ### ints -/
theorem opI {f : Value → Value → Sem Value} {C : Int → Int → Prop} {g : Int → Int → Int}
    (rule : ∀ (i j : Int) (t u : Tok) (s : Shared) (Q : Value → Shared → Prop) (E : Value → Shared → Prop), C i j → Q (.int (g i j) s.toks) { s with toks := s.toks + 1 } → wpAny (model X.prog X.w) X.A (f (.int i t) (.int j u)) Q E s) :
    OpR X f (rI C fun i j => .int (g i j)) := by
  intro pins s σ H x y v u Q I rx ry h
  obtain ⟨i, j, rfl, rfl, hc, q⟩ := h
  obtain ⟨t, rfl⟩ := rx
  obtain ⟨t', rfl⟩ := ry
  exact rule i j t t' s _ _ hc ⟨.int (g i j), H, I.tok _, ⟨_, rfl⟩, q⟩
theorem opI0 {f : Value → Value → Sem Value} {g : Int → Int → Int}
    (rule : ∀ (i j : Int) (t u : Tok) (s : Shared) (Q : Value → Shared → Prop) (E : Value → Shared → Prop), Q (.int (g i j) s.toks) { s with toks := s.toks + 1 } → wpAny (model X.prog X.w) X.A (f (.int i t) (.int j u)) Q E s) :
    OpR X f (rI0 fun i j => .int (g i j)) := by
  intro pins s σ H x y v u Q I rx ry h
  obtain ⟨i, j, rfl, rfl, q⟩ := h
  obtain ⟨t, rfl⟩ := rx
  obtain ⟨t', rfl⟩ := ry
  exact rule i j t t' s _ _ ⟨.int (g i j), H, I.tok _, ⟨_, rfl⟩, q⟩
theorem opB0 {f : Value → Value → Sem Value} {g : Int → Int → Bool}
    (rule : ∀ (i j : Int) (t u : Tok) (s : Shared) (Q : Value → Shared → Prop) (E : Value → Shared → Prop), Q (.bool (g i j)) s → wpAny (model X.prog X.w) X.A (f (.int i t) (.int j u)) Q E s) :
    OpR X f (rI0 fun i j => .bl (g i j)) := by
  intro pins s σ H x y v u Q I rx ry h
  obtain ⟨i, j, rfl, rfl, q⟩ := h
  obtain ⟨t, rfl⟩ := rx
  obtain ⟨t', rfl⟩ := ry
  exact rule i j t t' s _ _ ⟨.bl (g i j), H, I, rfl, q⟩

noncomputable def CPow (i j : Int) : Prop := 0 ≤ j ∧ j ≤ 1000000 ∧ i.natAbs < 2 ^ 64
noncomputable def CMul (i j : Int) : Prop := (-(2 ^ 64) < i ∧ i < 2 ^ 64) ∨ (-(2 ^ 64) < j ∧ j < 2 ^ 64)
theorem CMul.ok {i j : Int} (h : CMul i j) : IntMulOk i j := by
  rcases h with ⟨h1, h2⟩ | ⟨h1, h2⟩
  · exact .of_left (intBits_le_64 h1 h2)
  · exact .of_right (intBits_le_64 h1 h2)

theorem op_add : OpR X (binaryOp .Add) (rI0 fun i j => .int (i + j)) := opI0 fun _ _ _ _ _ _ _ q => add_int q
theorem op_sub : OpR X (binaryOp .Sub) (rI0 fun i j => .int (i - j)) := opI0 fun _ _ _ _ _ _ _ q => sub_int q
theorem op_mul : OpR X (binaryOp .Mult) (rI CMul fun i j => .int (i * j)) := opI fun _ _ _ _ _ _ _ hc q => mul_int q hc.ok
/-- % by a positive divisor of any size -/
theorem op_mod : OpR X (binaryOp .Mod) (rI (fun _ j => 0 < j) fun i j => .int (i % j)) := opI fun i j _ _ _ _ _ hc q => by
  have h1 : (0 : Int) < j := hc
  exact mod_int' (by omega) (by rw [Int.fmod_eq_emod_of_nonneg i (by omega)]; exact q)
theorem op_pow : OpR X (binaryOp .Pow) (rI CPow fun i j => .int (i ^ j.toNat)) := opI fun _ _ _ _ _ _ _ hc q => pow_int_small hc.1 hc.2.1 hc.2.2 q


theorem unI {f : Value → Sem Value} {g : Int → Int}
    (rule : ∀ (i : Int) (t : Tok) (s : Shared) (Q : Value → Shared → Prop) (E : Value → Shared → Prop), Q (.int (g i) s.toks) { s with toks := s.toks + 1 } → wpAny (model X.prog X.w) X.A (f (.int i t)) Q E s) :
    UnR X f (rU fun i => .int (g i)) := by
  intro pins s σ H x v Q I rx h
  obtain ⟨i, rfl, q⟩ := h
  obtain ⟨t, rfl⟩ := rx
  exact rule i t s _ _ ⟨.int (g i), H, I.tok _, ⟨_, rfl⟩, q⟩
theorem un_neg : UnR X (unaryOp .USub) (rU fun i => .int (-i)) := unI fun _ _ _ _ _ q => neg_int q

/-! ### bools among ints: n += (a < b) -/
end

/-! ### comparisons -/
/-- the scalars that == tells apart as data does -/
noncomputable def scal : V → V → Bool
  | .non, .non => true | .non, .int _ => true | .int _, .non => true | .non, .bl _ => true | .bl _, .non => true | .non, .str _ => true | .str _, .non => true
  | .int _, .int _ => true | .bl _, .bl _ => true | .str _, .str _ => true | .byt _, .byt _ => true
  | .int _, .str _ => true | .str _, .int _ => true | .bl _, .str _ => true | .str _, .bl _ => true
  | _, _ => false
noncomputable def rEq : R2 := fun x y H Q => scal x y = true ∧ Q (.bl (decide (x = y))) H
noncomputable def rNe : R2 := fun x y H Q => scal x y = true ∧ Q (.bl (!decide (x = y))) H

theorem dec_int {i j : Int} : decide (V.int i = V.int j) = (i == j) := by
  rw [Bool.eq_iff_iff]
  simp
theorem dec_bl {i j : Bool} : decide (V.bl i = V.bl j) = (i == j) := by
  rw [Bool.eq_iff_iff]
  simp
theorem dec_str {i j : Str} : decide (V.str i = V.str j) = (i == j) := by
  rw [Bool.eq_iff_iff]
  simp
theorem dec_byt {i j : Array UInt8} : decide (V.byt i = V.byt j) = (i.toList == j.toList) := by
  rw [Bool.eq_iff_iff]
  cases i
  cases j
  simp

section
variable {X : Cx} {a b c : Expr} {ta tb tc : TE} {pos : Pos}
theorem fin_bl {pins : List (Addr × Obj)} {σ : St} {H : Hp} {s : Shared} {Q : VK} {k k' : Bool} (I : Inv X pins σ H s) (q : Q (.bl k) H) (e : k = k') : EP X pins σ Q (.bool k') s := by
  subst e
  exact ⟨.bl k, H, I, rfl, q⟩
theorem op_eq : OpR X (compareOp .Eq) rEq := by
  intro pins s σ H x y v u Q I rx ry h
  obtain ⟨hs, q⟩ := h
  cases x with
  | non =>
    cases rx
    cases y with
    | non => cases ry; exact PySem.EqNone.eq_none_none (fin_bl I q (by simp))
    | bl j => cases ry; exact PySem.EqNone.eq_none_bool (fin_bl I q (by simp))
    | int j => obtain ⟨t', rfl⟩ := ry; exact PySem.EqNone.eq_none_int (fin_bl I q (by simp))
    | str j => obtain ⟨t', rfl⟩ := ry; exact PySem.EqNone.eq_none_str (fin_bl I q (by simp))
    | _ => exact absurd (show false = true from hs) Bool.false_ne_true
  | bl i =>
    cases rx
    cases y with
    | non => cases ry; exact PySem.EqNone.eq_bool_none (fin_bl I q (by simp))
    | bl j => cases ry; exact eq_bool (fin_bl I q dec_bl)
    | str j => obtain ⟨t', rfl⟩ := ry; exact PySem.EqMixed.eq_bool_str (fin_bl I q (by simp))
    | _ => exact absurd (show false = true from hs) Bool.false_ne_true
  | int i =>
    obtain ⟨t, rfl⟩ := rx
    cases y with
    | non => cases ry; exact PySem.EqNone.eq_int_none (fin_bl I q (by simp))
    | int j => obtain ⟨t', rfl⟩ := ry; exact eq_int (fin_bl I q dec_int)
    | str j => obtain ⟨t', rfl⟩ := ry; exact PySem.EqMixed.eq_int_str (fin_bl I q (by simp))
    | _ => exact absurd (show false = true from hs) Bool.false_ne_true
  | str i =>
    obtain ⟨t, rfl⟩ := rx
    cases y with
    | non => cases ry; exact PySem.EqNone.eq_str_none (fin_bl I q (by simp))
    | bl j => cases ry; exact PySem.EqMixed.eq_str_bool (fin_bl I q (by simp))
    | int j => obtain ⟨t', rfl⟩ := ry; exact PySem.EqMixed.eq_str_int (fin_bl I q (by simp))
    | str j => obtain ⟨t', rfl⟩ := ry; exact eq_str (fin_bl I q dec_str)
    | _ => exact absurd (show false = true from hs) Bool.false_ne_true
  | byt i =>
    obtain ⟨t, rfl⟩ := rx
    cases y with
    | byt j => obtain ⟨t', rfl⟩ := ry; exact PySem.W.eq_bytes (fin_bl I q dec_byt)
    | _ => exact absurd (show false = true from hs) Bool.false_ne_true
  | _ => cases y <;> exact absurd (show false = true from hs) Bool.false_ne_true
theorem op_ne : OpR X (compareOp .NotEq) rNe := by
  intro pins s σ H x y v u Q I rx ry h
  obtain ⟨hs, q⟩ := h
  cases x with
  | non =>
    cases rx
    cases y with
    | non => cases ry; exact PySem.EqNone.ne_none_none (fin_bl I q (by simp))
    | bl j => cases ry; exact PySem.EqNone.ne_none_bool (fin_bl I q (by simp))
    | int j => obtain ⟨t', rfl⟩ := ry; exact PySem.EqNone.ne_none_int (fin_bl I q (by simp))
    | str j => obtain ⟨t', rfl⟩ := ry; exact PySem.EqNone.ne_none_str (fin_bl I q (by simp))
    | _ => exact absurd (show false = true from hs) Bool.false_ne_true
  | bl i =>
    cases rx
    cases y with
    | non => cases ry; exact PySem.EqNone.ne_bool_none (fin_bl I q (by simp))
    | bl j => cases ry; exact ne_bool (fin_bl I q (congrArg not dec_bl))
    | str j => obtain ⟨t', rfl⟩ := ry; exact PySem.EqMixed.ne_bool_str (fin_bl I q (by simp))
    | _ => exact absurd (show false = true from hs) Bool.false_ne_true
  | int i =>
    obtain ⟨t, rfl⟩ := rx
    cases y with
    | non => cases ry; exact PySem.EqNone.ne_int_none (fin_bl I q (by simp))
    | int j => obtain ⟨t', rfl⟩ := ry; exact ne_int (fin_bl I q (congrArg not dec_int))
    | str j => obtain ⟨t', rfl⟩ := ry; exact PySem.EqMixed.ne_int_str (fin_bl I q (by simp))
    | _ => exact absurd (show false = true from hs) Bool.false_ne_true
  | str i =>
    obtain ⟨t, rfl⟩ := rx
    cases y with
    | non => cases ry; exact PySem.EqNone.ne_str_none (fin_bl I q (by simp))
    | bl j => cases ry; exact PySem.EqMixed.ne_str_bool (fin_bl I q (by simp))
    | int j => obtain ⟨t', rfl⟩ := ry; exact PySem.EqMixed.ne_str_int (fin_bl I q (by simp))
    | str j => obtain ⟨t', rfl⟩ := ry; exact ne_str (fin_bl I q (congrArg not dec_str))
    | _ => exact absurd (show false = true from hs) Bool.false_ne_true
  | byt i =>
    obtain ⟨t, rfl⟩ := rx
    cases y with
    | byt j => obtain ⟨t', rfl⟩ := ry; exact PySem.W.ne_bytes (fin_bl I q (congrArg not dec_byt))
    | _ => exact absurd (show false = true from hs) Bool.false_ne_true
  | _ => cases y <;> exact absurd (show false = true from hs) Bool.false_ne_true

theorem op_lt : OpR X (compareOp .Lt) (rI0 fun i j => .bl (decide (i < j))) := opB0 fun _ _ _ _ _ _ _ q => lt_int q
theorem op_gt : OpR X (compareOp .Gt) (rI0 fun i j => .bl (decide (j < i))) := opB0 fun _ _ _ _ _ _ _ q => gt_int q
theorem op_ge : OpR X (compareOp .GtE) (rI0 fun i j => .bl (decide (j ≤ i))) := opB0 fun _ _ _ _ _ _ _ q => ge_int q

/-- is None, is not None: the right side a value none -/
theorem op_isN : OpR X (compareOp .Is) (fun x y H Q => y = .non ∧ Q (.bl (decide (x = .non))) H) := by
  intro pins s σ H x y v u Q I rx ry h
  obtain ⟨rfl, q⟩ := h
  cases ry
  refine is_none_gen (fin_bl I q ?_)
  cases x <;> first
    | (cases rx; rfl)
    | (obtain ⟨t, rfl⟩ := rx; rfl)
theorem op_notN : OpR X (compareOp .IsNot) (fun x y H Q => y = .non ∧ Q (.bl (!decide (x = .non))) H) := by
  intro pins s σ H x y v u Q I rx ry h
  obtain ⟨rfl, q⟩ := h
  cases ry
  refine isnot_none_gen (fin_bl I q ?_)
  cases x <;> first
    | (cases rx; rfl)
    | (obtain ⟨t, rfl⟩ := rx; rfl)



theorem nomark (b : Expr) {op : CmpOp} (h : op ≠ .In := by decide) (h2 : op ≠ .NotIn := by decide) : behindInMarks op b = false := by
  have e1 : (op == CmpOp.In) = false := by cases op <;> first | rfl | exact absurd rfl h
  have e2 : (op == CmpOp.NotIn) = false := by cases op <;> first | rfl | exact absurd rfl h2
  cases b <;> simp [behindInMarks, e1, e2]
/-- a comparison as a value; hm: nomark b, or (for in, not in) by with_unfolding_all rfl -/
theorem pe_cmpR {op : CmpOp} {r : R2} (ho : OpR X (compareOp op) r) (ha : PE X a ta) (hb : PE X b tb) (hm : behindInMarks op b = false) : PE X (.Compare a [op] [b] pos) (tOp r ta tb) := by
  intro pins s σ H Q I h
  exact wpAny_Compare1 (binT ha hb I h fun v u s2 x y H2 I2 rx ry q => ho pins s2 σ H2 x y v u Q I2 rx ry q) hm
/-- a reading of a value as a test -/
noncomputable def tTest (t : TE) : TT := fun σ H Q => t σ H fun x H' => ∃ k, x = .bl k ∧ Q k H'
theorem pt_cmpR {op : CmpOp} {r : R2} (ho : OpR X (compareOp op) r) (ha : PE X a ta) (hb : PE X b tb) (hm : behindInMarks op b = false) : PT X (.Compare a [op] [b] pos) (tTest (tOp r ta tb)) := by
  intro pins s σ H Q I h
  refine wpAny_isTrue_Compare1 (thn (ha pins s σ H _ I h) fun v s1 ⟨x, H1, I1, r1, q1⟩ => thn (hb pins s1 σ H1 _ I1 q1) fun u s2 ⟨y, H2, I2, r2, q2⟩ =>
    thn (ho pins s2 σ H2 x y v u _ I2 r1 r2 q2) fun c s3 ⟨z, H3, I3, r3, k, e, q3⟩ => ?_) hm
  subst e
  cases r3
  exact wpAny_truthy_bool ⟨H3, I3, q3⟩

/-! ### truth -/
/-- a value's truth by the abstract heap -/
noncomputable def TruV (K : PySem.W.Frag) (x : V) (H : Hp) (k : Bool) : Prop :=
  match x with
  | .non => k = false
  | .bl b => k = b
  | .int i => k = (i != 0)
  | .str y => y.length ≤ sizeLine ∧ k = ((y.length : Int) != 0)
  | .byt y => y.size ≤ sizeLine ∧ k = ((y.size : Int) != 0)
  | .ref p => (∃ xs, SqL K H p xs ∧ k = !xs.isEmpty) ∨ (∃ xs, SqT K H p xs ∧ k = !xs.isEmpty) ∨ ∃ kvs, H p = some (.dK kvs) ∧ k = !kvs.isEmpty
  | _ => False
theorem isEmpty_kv {κ : Type} {kvs : List (κ × V)} {vs : List (κ × Value)} (r : KV kvs vs) : (!vs.isEmpty) = !kvs.isEmpty := by
  cases r <;> rfl
theorem isEmpty_of {xs : List V} {its : List Value} (r : Vals xs its) : (!its.toArray.isEmpty) = !xs.isEmpty := by
  cases r <;> simp
theorem line63 : (sizeLine : Nat) < 2 ^ 63 := by rw [sizeLine_eq]; decide
theorem tru_ok : TruR X (fun x H Q => ∃ k, TruV X.K x H k ∧ Q k H) := by
  intro pins s σ H x v Q I rx h
  obtain ⟨k, e, q⟩ := h
  have hl := line63
  have hs : sizeLine = 16777216 := sizeLine_eq
  cases x with
  | non =>
    cases rx
    have e' : k = false := e
    subst e'
    exact truthy_none ⟨H, I, q⟩
  | bl b =>
    cases rx
    have e' : k = b := e
    subst e'
    exact wpAny_truthy_bool ⟨H, I, q⟩
  | int i =>
    obtain ⟨t, rfl⟩ := rx
    have e' : k = (i != 0) := e
    subst e'
    exact PySem.P.truthy_int ⟨H, I, q⟩
  | str y =>
    obtain ⟨t, rfl⟩ := rx
    obtain ⟨hy, e'⟩ : y.length ≤ sizeLine ∧ k = ((y.length : Int) != 0) := e
    subst e'
    exact PySem.P.truthy_str (by omega) ⟨H, I.tok _, q⟩
  | byt y =>
    obtain ⟨t, rfl⟩ := rx
    obtain ⟨hy, e'⟩ : y.size ≤ sizeLine ∧ k = ((y.size : Int) != 0) := e
    subst e'
    exact PySem.W.truthy_bytes (by omega) ⟨H, I.tok _, q⟩
  | ref p =>
    cases rx
    have e' : (∃ xs, SqL X.K H p xs ∧ k = !xs.isEmpty) ∨ (∃ xs, SqT X.K H p xs ∧ k = !xs.isEmpty) ∨ ∃ kvs, H p = some (.dK kvs) ∧ k = !kvs.isEmpty := e
    rcases e' with ⟨xs, hx, e'⟩ | ⟨xs, hx, e'⟩ | ⟨kvs, hx, e'⟩
    · subst e'
      obtain ⟨its, r, pl, hz⟩ := I.list hx
      have hlen := r.length
      exact wpAny_truthy_list pl.isList (by simp only [List.size_toArray]; omega) ⟨H, I.tok _, by rw [isEmpty_of r]; exact q⟩
    · subst e'
      obtain ⟨its, r, pl, hz⟩ := I.tuple hx
      have hlen := r.length
      exact truthy_tuple pl (by simp only [List.size_toArray]; omega) ⟨H, I.tok _, by rw [isEmpty_of r]; exact q⟩
    · subst e'
      obtain ⟨hz, hS, vs, r, m⟩ : kvs.length ≤ sizeLine ∧ (p == sysModules) = false ∧ ∃ vs, KV kvs vs ∧ s.heap.DictOf (mixKind X.prog X.w) p vs := I.hok p _ hx
      have hlen : kvs.length = vs.length := Paired.length r
      exact wpAny_truthy_dict hS m (by omega) ⟨H, I.tok _, by rw [isEmpty_kv r]; exact q⟩
  | _ => exact (show False from e).elim
/-- any expression whose test is its value's truth (a name, a call, a subscript, a field ..: he by fun _ => rfl) -/
theorem pt_truth (ha : PE X a ta) (he : ∀ whole, isTrue a X.env whole = (do let v ← whole; standAt a.pos; holding [v] (truthy v))) :
    PT X a (fun σ H Q => ta σ H fun x H' => ∃ k, TruV X.K x H' k ∧ Q k H') := by
  intro pins s σ H Q I h
  exact isTrue_plain (thn (ha pins s σ H _ I h) fun v s1 ⟨x, H1, I1, r1, q1⟩ => tru_ok pins s1 σ H1 x v Q I1 r1 q1) (he _)

/-! ### strs and bytes -/


/-! ### scalar builtins, by CallR -/
theorem vals1 {x : V} {us : List Value} (r : Vals [x] us) : ∃ u, us = [u] ∧ RelV x u := by
  cases r with
  | cons r1 r2 => cases r2; exact ⟨_, rfl, r1⟩
theorem vals2 {x y : V} {us : List Value} (r : Vals [x, y] us) : ∃ u w', us = [u, w'] ∧ RelV x u ∧ RelV y w' := by
  cases r with
  | cons r1 r2 =>
    cases r2 with
    | cons r3 r4 => cases r4; exact ⟨_, _, rfl, r1, r3⟩
theorem call_max2 (hc : X.calm = true) : CallR X (.builtin "max") (fun xs H Q => ∃ i j, xs = [.int i, .int j] ∧ Q (.int (if j > i then j else i)) H) := by
  intro pins s σ H xs us Q I r h
  obtain ⟨i, j, rfl, q⟩ := h
  obtain ⟨u, w', rfl, ⟨t, rfl⟩, ⟨t', rfl⟩⟩ := vals2 r
  refine max_two_ints (I.ok.hd hc) fun h' tk k => ⟨_, H, I.kept k, ?_, q⟩
  by_cases hj : j > i
  · rw [if_pos hj, if_pos hj]; exact ⟨_, rfl⟩
  · rw [if_neg hj, if_neg hj]; exact ⟨_, rfl⟩
theorem call_min2 (hc : X.calm = true) : CallR X (.builtin "min") (fun xs H Q => ∃ i j, xs = [.int i, .int j] ∧ Q (.int (if j < i then j else i)) H) := by
  intro pins s σ H xs us Q I r h
  obtain ⟨i, j, rfl, q⟩ := h
  obtain ⟨u, w', rfl, ⟨t, rfl⟩, ⟨t', rfl⟩⟩ := vals2 r
  refine min_two_ints (I.ok.hd hc) fun h' tk k => ⟨_, H, I.kept k, ?_, q⟩
  by_cases hj : j < i
  · rw [if_pos hj, if_pos hj]; exact ⟨_, rfl⟩
  · rw [if_neg hj, if_neg hj]; exact ⟨_, rfl⟩
theorem call_int1 : CallR X (.type "int") (fun xs H Q => (∃ i, xs = [.int i] ∧ Q (.int i) H) ∨ ∃ k, xs = [.bl k] ∧ Q (.int (if k then 1 else 0)) H) := by
  intro pins s σ H xs us Q I r h
  rcases h with ⟨i, rfl, q⟩ | ⟨k, rfl, q⟩
  · obtain ⟨u, rfl, t, rfl⟩ := vals1 r
    exact call_int_int ⟨.int i, H, I, ⟨_, rfl⟩, q⟩
  · obtain ⟨u, rfl, r1⟩ := vals1 r
    cases r1
    exact call_int_bool ⟨.int (if k then 1 else 0), H, I.tok _, ⟨_, rfl⟩, q⟩
end
end L2

namespace L2
open PySem PySem.Spec PyProof.Rows

/-! ### an instance, its attributes a map -/
structure ObjM (h : Heap) (x dx C : Addr) (mA : Str → Option Value) : Prop where
  obj : h.get? x = some (PySem.W.instObj C dx)
  ns : h.Ns1 dx mA
  ne : dx ≠ x

theorem lookIn_ns {h : Heap} {dx : Addr} {mA : Str → Option Value} (n : h.Ns1 dx mA) : ∃ od, h.get? dx = some od ∧ ∀ name, PySem.W.lookIn name od = some (mA name) := by
  obtain ⟨o, es, ep, ho, hd, hk, _, hm⟩ := n
  refine ⟨o, ho, fun name => ?_⟩
  have e := hm name
  unfold nsFind findBy at e
  rw [← Array.find?_toList] at e
  unfold PySem.W.lookIn
  rw [hd]
  dsimp only
  split
  · rename_i y q
    rw [q] at e
    exact congrArg some e
  · rename_i q
    rw [q] at e
    have a : es.toList.any (·.refKey) = false := by
      rw [List.any_eq_false]
      intro y hy
      obtain ⟨z, t, hkey⟩ := hk y (Array.mem_toList_iff.mp hy)
      simp [DictEntry.refKey, hkey]
    have a' : ¬ es.toList.any (·.refKey) = true := by rw [a]; exact Bool.false_ne_true
    rw [if_neg a']
    exact congrArg some e

theorem ObjM.look {h : Heap} {x dx C : Addr} {mA : Str → Option Value} (I : ObjM h x dx C mA) : ∃ od, PySem.W.InstAt h x (PySem.W.instObj C dx) C (some od) ∧ ∀ name, PySem.W.lookIn name od = some (mA name) :=
  let ⟨od, ho, hl⟩ := lookIn_ns I.ns
  ⟨od, ⟨I.obj, rfl, rfl, ho⟩, hl⟩

section
variable {prog : Program} {w : World} {A : Around} {E : Value → Shared → Prop} {s : Shared} {K : PySem.W.Frag} {x dx C f : Addr} {mA : Str → Option Value} {name : Str} {v : Value}

theorem get_map {expr : Bool} {Q : Value → Shared → Prop} (X : K.In s.heap) (I : ObjM s.heap x dx C mA) (hg : PySem.W.plainGet K C name = true) (hh : PySem.W.hasDictIn K C = true)
    (ha : PySem.W.findIn K (.ref C) name = some none) (hv : mA name = some v) (hv' : PySem.W.handedIn v = true) (h : Q v { s with toks := s.toks + 1 }) :
    wpAny (model prog w) A (getAttr (.ref x) name expr) Q E s := by
  obtain ⟨od, J, hl⟩ := I.look
  exact PySem.W.get_value X J (PySem.W.plainGet_of hg).1 (PySem.W.findObj_own hh ha rfl (by rw [hl, hv])) hv' h


theorem get_meth {pl : Sem Bool} {Q : Value × List Value → Shared → Prop} (X : K.In s.heap) (I : ObjM s.heap x dx C mA) (hg : PySem.W.plainGet K C name = true)
    (hf : PySem.W.findIn K (.ref C) name = some (some (.ref f))) (ht : PySem.W.isFn K (.ref f) = true) (hv : mA name = none) (h : Q (.ref f, [.ref x]) s) :
    wpAny (model prog w) A (getMethod (.ref x) name pl) Q E s := by
  obtain ⟨od, J, hl⟩ := I.look
  exact PySem.W.method_fn X J (PySem.W.plainGet_of hg).1 (PySem.W.plainGet_of hg).2 hf (beq_iff_eq.mp ht) (by show (PySem.W.lookIn name od).map (·.isSome) = some false; rw [hl, hv]; rfl) h

theorem set_map {ns : List Str} {Q : Unit → Shared → Prop} (X : K.In s.heap) (I : ObjM s.heap x dx C mA)
    (hs : PySem.W.findIn K (.ref C) "__setattr__" = some (some (.builtin "object.__setattr__"))) (hp : PySem.W.plainOver K C = true) (ht : PySem.W.takerIn K C name = some none) (hh : PySem.W.hasDictIn K C = true)
    (hw : PySem.Within mA ns) (hsz : ns.length ≤ sizeLine)
    (h : ∀ h', ObjM h' x dx C (fun y => if y = name then some v else mA y) → Heap.SameBut dx s.heap h' → Q () { s with heap := h', toks := s.toks + 2 }) :
    wpAny (model prog w) A (setAttr (.ref x) name v) Q E s := by
  obtain ⟨od, J, hl⟩ := I.look
  refine PySem.W.set_plain X J hs (PySem.W.osa_open (s := { s with toks := s.toks + 1 }) (r := none) X J hp ht fun b => ?_)
  obtain ⟨cd, hc, hd'⟩ := PySem.W.any_some hh
  have hx : s.heap.get? x = some ⟨.ref C, some dx, .plain, #[]⟩ := I.obj
  refine wpAny_bind (wpAny_pure (wpAny_bind (wpAny_bind (wpAny_loadPart hx (wpAny_bind (PySem.W.Looks.here (s := { s with toks := s.toks + 1 }) (PySem.W.looks_clsIn X hc) ?_))))))
  rw [hd']
  refine wpAny_pure (a := some dx) (wpAny_bind (wpAny_pure (wpAny_bind ?_)))
  refine wpAny_nsSet1 (s := { s with toks := s.toks + 1 }) I.ns fun h' hn2 hs2 => ?_
  obtain ⟨oD, esD, epD, hoD, hdD, hcD⟩ := hn2.count (PySem.Within.cons name v hw)
  refine wpAny_bind (wpAny_lookBehind hoD (by rw [hdD]; exact pastItsLine_dict (Nat.le_trans hcD (by rw [List.length_cons]; omega))) ?_)
  exact wpAny_pure (h _ ⟨(hs2.2 _ (Ne.symm I.ne)).trans I.obj, hn2, I.ne⟩ hs2)

/-- C(..): the dict at the heap's end, the instance behind it; then its __init__ -/
theorem make_map {R : Result → Shared → Prop} {vs : List Value} {kw : List (Str × Value)} (X : K.In s.heap) (hm : PySem.W.makesIn K C = true)
    (hi : PySem.W.findIn K (.ref C) "__init__" = some (some (.ref f))) (hf : PySem.W.typeIn K (.ref f) = some (.type "function"))
    (h : codeAny (model prog w) (A.under (.builtin "type.__call__" ⟨.ref C :: vs, kw⟩)) (.call (.ref f) ⟨.ref (s.heap.objs.size + 1) :: vs, kw⟩) (PySem.W.InitBack (s.heap.objs.size + 1) R)
      { s with heap := (s.heap.push PySem.W.emptyDict).push (PySem.W.instObj C s.heap.objs.size) }) :
    codeAny (model prog w) A (.call (.ref C) ⟨vs, kw⟩) R s := by
  obtain ⟨hh, g, d, t, os⟩ := s
  exact PySem.W.make_core (PySem.W.makes_of X hm) (PySem.W.looks_findIn X hi) (fun self => PySem.W.bind_fn X self hf) (.inl rfl) h
end

/-! ### the attributes as a list of pairs -/
noncomputable def putF (f : Str) (v : V) : List (Str × V) → List (Str × V)
  | [] => [(f, v)]
  | (g, x) :: r => if g = f then (g, v) :: r else (g, x) :: putF f v r
theorem lookup_putF (f g : Str) (v : V) : ∀ fs : List (Str × V), (putF f v fs).lookup g = if g = f then some v else fs.lookup g
  | [] => by
    show List.lookup g [(f, v)] = _
    by_cases h : g = f
    · have hb : (g == f) = true := beq_iff_eq.mpr h
      simp only [List.lookup, hb, if_pos h]
    · have hb : (g == f) = false := beq_eq_false_iff_ne.mpr h
      simp only [List.lookup, hb, if_neg h]
  | (k, x) :: r => by
    have ih := lookup_putF f g v r
    rw [show putF f v ((k, x) :: r) = (if k = f then (k, v) :: r else (k, x) :: putF f v r) from rfl]
    by_cases hk : k = f
    · rw [if_pos hk]
      by_cases h : g = k
      · have hb : (g == k) = true := beq_iff_eq.mpr h
        simp only [List.lookup, hb, if_pos (h.trans hk)]
      · have hb : (g == k) = false := beq_eq_false_iff_ne.mpr h
        simp only [List.lookup, hb, if_neg (fun e : g = f => h (e.trans hk.symm))]
    · rw [if_neg hk]
      by_cases h : g = k
      · have hb : (g == k) = true := beq_iff_eq.mpr h
        simp only [List.lookup, hb, if_neg (fun e : g = f => hk (h.symm.trans e))]
      · have hb : (g == k) = false := beq_eq_false_iff_ne.mpr h
        simp only [List.lookup, hb]
        exact ih
theorem keys_putF (f : Str) (v : V) : ∀ fs : List (Str × V), f ∈ (putF f v fs).map (·.1) ∧ ∀ g, g ∈ fs.map (·.1) → g ∈ (putF f v fs).map (·.1)
  | [] => ⟨by simp [putF], fun g h => by simp at h⟩
  | (k, x) :: r => by
    obtain ⟨i1, i2⟩ := keys_putF f v r
    rw [show putF f v ((k, x) :: r) = (if k = f then (k, v) :: r else (k, x) :: putF f v r) from rfl]
    by_cases hk : k = f
    · rw [if_pos hk]
      subst hk
      exact ⟨by simp, fun g h => by simpa using h⟩
    · rw [if_neg hk]
      refine ⟨?_, fun g h => ?_⟩
      · rw [List.map_cons]
        exact List.mem_cons_of_mem _ i1
      · rw [List.map_cons] at h ⊢
        rcases List.mem_cons.mp h with e | e
        · exact List.mem_cons.mpr (.inl e)
        · exact List.mem_cons_of_mem _ (i2 g e)
theorem length_putF (f : Str) (v : V) : ∀ fs : List (Str × V), (putF f v fs).length ≤ fs.length + 1
  | [] => by simp [putF]
  | (k, x) :: r => by
    have ih := length_putF f v r
    rw [show putF f v ((k, x) :: r) = (if k = f then (k, v) :: r else (k, x) :: putF f v r) from rfl]
    by_cases hk : k = f
    · rw [if_pos hk, List.length_cons, List.length_cons]; omega
    · rw [if_neg hk, List.length_cons, List.length_cons]; omega

theorem RelO.some_of {v : V} {o : Option Value} (r : RelO (some v) o) : ∃ u, o = some u ∧ RelV v u := by
  cases o with
  | none => exact (show False from r).elim
  | some u => exact ⟨u, rfl, r⟩
theorem RelO.none_of {o : Option Value} (r : RelO none o) : o = none := by
  cases o with
  | none => rfl
  | some u => exact (show False from r).elim
theorem handed_of {v : V} {u : Value} (r : RelV v u) : PySem.W.handedIn u = true := by
  cases v with
  | non => cases (show u = Value.none from r); rfl
  | bl b => cases (show u = Value.bool b from r); rfl
  | int i => obtain ⟨t, e⟩ := (show ∃ t, u = Value.int i t from r); cases e; rfl
  | str x => obtain ⟨t, e⟩ := (show ∃ t, u = Value.str x t from r); cases e; rfl
  | byt b => obtain ⟨t, e⟩ := (show ∃ t, u = Value.bytes b t from r); cases e; rfl
  | flt b => obtain ⟨t, e⟩ := (show ∃ t, u = Value.float b t from r); cases e; rfl
  | ref a => cases (show u = Value.ref a from r); rfl
  | ty n => cases (show u = Value.type n from r); rfl

section
variable {P : Program} {w : World} {H H' : Hp} {h h' : Heap} {a C dx : Addr} {fs fs' : List (Str × V)}
theorem ins_get (hok : HOk P w H h) (e : H a = some (.ins C dx fs)) : ∃ mA, ObjM h a dx C mA ∧ (∀ f, RelO (fs.lookup f) (mA f)) ∧ PySem.Within mA (fs.map (·.1)) ∧ fs.length ≤ 1000 ∧ H dx = some (.own a) := by
  obtain ⟨d, z, ne, ob, mA, n, r, q⟩ := (show ObjOk P w H h a (.ins C dx fs) from hok a _ e)
  exact ⟨mA, ⟨ob, n, ne⟩, r, q, z, d⟩
end

/-! ### what of the text a class must have -/
structure Cls (K : PySem.W.Frag) (C : Addr) : Prop where
  pg : PySem.W.plainGet K C Str.empty = true
  hd : PySem.W.hasDictIn K C = true
  po : PySem.W.plainOver K C = true
  sa : PySem.W.findIn K (.ref C) "__setattr__" = some (some (.builtin "object.__setattr__"))
theorem Cls.get {K : PySem.W.Frag} {C : Addr} (c : Cls K C) (f : Str) : PySem.W.plainGet K C f = true := c.pg
/-- no class of it has the name -/
noncomputable def NoAttr (K : PySem.W.Frag) (C : Addr) (f : Str) : Prop := PySem.W.findIn K (.ref C) f = some none
theorem NoAttr.taker {K : PySem.W.Frag} {C : Addr} {f : Str} (n : NoAttr K C f) : PySem.W.takerIn K C f = some none := by
  unfold PySem.W.takerIn
  rw [show PySem.W.findIn K (.ref C) f = some none from n]
  rfl
/-- a method: a plain def of the class or of one above it -/
structure Meth (K : PySem.W.Frag) (C : Addr) (m : Str) (f : Addr) : Prop where
  at_ : PySem.W.findIn K (.ref C) m = some (some (.ref f))
  fn : PySem.W.isFn K (.ref f) = true
  kp : PySem.W.keepIn K (.ref f) = true

section
variable {X : Cx} {pins : List (Addr × Obj)} {σ : St} {H : Hp} {s : Shared} {a C dx : Addr} {fs : List (Str × V)} {f : Str} {v : V} {A : Around} {E : Value → Shared → Prop}

theorem getattr_ok {b : Bool} {Q : Value → Shared → Prop} (I : Inv X pins σ H s) (e : H a = some (.ins C dx fs)) (c : Cls X.K C) (n : NoAttr X.K C f) (l : fs.lookup f = some v)
    (h : ∀ u s', Inv X pins σ H s' → RelV v u → Q u s') : wpAny (model X.prog X.w) A (getAttr (.ref a) f b) Q E s := by
  obtain ⟨mA, O, r, _, _, _⟩ := ins_get I.hok e
  obtain ⟨u, hu, ru⟩ := RelO.some_of (v := v) (o := mA f) (by rw [← l]; exact r f)
  exact get_map I.kIn O (c.get f) c.hd n hu (handed_of ru) (h u _ (I.tok _) ru)


theorem getmeth_ok {m : Str} {g : Addr} {pl : Sem Bool} {Q : Value × List Value → Shared → Prop} (I : Inv X pins σ H s) (e : H a = some (.ins C dx fs)) (c : Cls X.K C) (k : Meth X.K C m g) (l : fs.lookup m = none)
    (h : Q (.ref g, [.ref a]) s) : wpAny (model X.prog X.w) A (getMethod (.ref a) m pl) Q E s := by
  obtain ⟨mA, O, r, _, _, _⟩ := ins_get I.hok e
  have hn : mA m = none := RelO.none_of (by rw [← l]; exact r m)
  exact get_meth I.kIn O (c.get m) k.at_ k.fn hn h

theorem setattr_ok {y : V} {u : Value} {Q : Unit → Shared → Prop} (I : Inv X pins σ H s) (e : H a = some (.ins C dx fs)) (c : Cls X.K C) (n : NoAttr X.K C f) (hl : fs.length < 1000) (ry : RelV y u)
    (h : ∀ s', Inv X pins σ (upd H a (.ins C dx (putF f y fs))) s' → Q () s') : wpAny (model X.prog X.w) A (setAttr (.ref a) f u) Q E s := by
  obtain ⟨mA, O, r, wi, _, ho⟩ := ins_get I.hok e
  have hz : (fs.map (·.1)).length ≤ sizeLine := by rw [List.length_map, sizeLine_eq]; omega
  refine set_map I.kIn O c.sa c.po n.taker c.hd wi hz fun h' O' sb => h _ ?_
  have hd : ∃ o, h'.get? dx = some o := let ⟨o, _, _, e', _⟩ := O'.ns; ⟨o, e'⟩
  refine I.write (x := a) (e := dx) (by rw [e]; exact True.intro) (.inr ho) (fun b q hb z => (sb.2 b hb).trans z) hd ?_
  refine ⟨by rw [upd_ne O.ne]; exact ho, ?_, O.ne, O'.obj, _, O'.ns, fun g => ?_, fun g hg => ?_⟩
  · have := length_putF f y fs; omega
  · show RelO ((putF f y fs).lookup g) (if g = f then some u else mA g)
    rw [lookup_putF]
    by_cases q : g = f
    · rw [if_pos q, if_pos q]; exact ry
    · rw [if_neg q, if_neg q]; exact r g
  · by_cases q : g = f
    · rw [q]; exact (keys_putF f y fs).1
    · refine (keys_putF f y fs).2 g (wi g fun z => hg ?_)
      show (if g = f then some u else mA g) = none
      rw [if_neg q]; exact z

/-- a new instance, tracked, without attributes -/
theorem Inv.made (I : Inv X pins σ H s) : Inv X pins σ (upd (upd H s.heap.objs.size (.own (s.heap.objs.size + 1))) (s.heap.objs.size + 1) (.ins C s.heap.objs.size []))
    { s with heap := (s.heap.push PySem.W.emptyDict).push (PySem.W.instObj C s.heap.objs.size) } := by
  have e1 : (s.heap.push PySem.W.emptyDict).get? s.heap.objs.size = some PySem.W.emptyDict := Heap.get?_push_size s.heap rfl
  have e2 : ((s.heap.push PySem.W.emptyDict).push (PySem.W.instObj C s.heap.objs.size)).get? (s.heap.objs.size + 1) = some (PySem.W.instObj C s.heap.objs.size) := by
    have := Heap.get?_push_size (s.heap.push PySem.W.emptyDict) (o := PySem.W.instObj C s.heap.objs.size) rfl
    rwa [Heap.size_push] at this
  have e3 : (s.heap.push PySem.W.emptyDict).Ns s.heap.objs.size (fun _ => none) := ⟨PySem.W.emptyDict, #[], _, e1, rfl, (fun e he => absurd he (by simp)), fun _ => rfl⟩
  have I1 := I.laid (a := s.heap.objs.size) (o := .own (s.heap.objs.size + 1)) (h' := s.heap.push PySem.W.emptyDict) (t' := s.toks) (fun b u q => Heap.get?_push_of_some _ q) (Nat.le_refl _) ⟨_, e1⟩
  refine I1.laid (a := s.heap.objs.size + 1) (o := .ins C s.heap.objs.size []) (t' := s.toks) (fun b u q => Heap.get?_push_of_some _ q) (Nat.le_of_eq (Heap.size_push _ _)) ?_
  have ne : s.heap.objs.size ≠ s.heap.objs.size + 1 := Nat.ne_of_lt (Nat.lt_succ_self _)
  refine ⟨by rw [upd_ne ne, upd_same], Nat.zero_le _, ne, e2, fun _ => none, (Heap.Ns1.of_empty e3).at fun o q => Heap.get?_push_of_some _ q, fun _ => True.intro, fun y hy => absurd rfl hy⟩

/-- e.f where nothing but the object is asked: through attributeBase (super) and the last hold -/
theorem attr_of {prog : Program} {w : World} {env : Env} {e : Expr} {f : Str} {pos : Pos} {s : Shared} {Q : Value → Shared → Prop} (hb : attributeBase e f env (eval e env) = eval e env)
    (h : wpAny (model prog w) A (eval e env) (fun o s₁ => wpAny (model prog w) A (getAttr o f true) Q E s₁) E s) : wpAny (model prog w) A (eval (.Attribute e f pos) env) Q E s :=
  Attribute_any_ h (by rw [arm_eval_Attribute, hb])
end

/-! ### readings and rules -/
/-- e.f, an attribute of the instance -/
noncomputable def tFld (K : PySem.W.Frag) (ta : TE) (f : Str) : TE := fun σ H Q => ta σ H fun x H1 => ∃ a C dx fs v, x = .ref a ∧ H1 a = some (.ins C dx fs) ∧ Cls K C ∧ NoAttr K C f ∧ fs.lookup f = some v ∧ Q v H1
/-- e.f = value -/
noncomputable def sFld (K : PySem.W.Frag) (ta tv : TE) (f : Str) : TS := fun D σ H => tv σ H fun y H1 => ta σ H1 fun x H2 => ∃ a C dx fs, x = .ref a ∧ H2 a = some (.ins C dx fs) ∧ Cls K C ∧ NoAttr K C f ∧ fs.length < 1000 ∧
  D.nx σ (upd H2 a (.ins C dx (putF f y fs)))

section
variable {X : Cx} {o e value : Expr} {f : Str} {pos pos' tpos : Pos} {ta tv : TE}
theorem pe_fld (he : PE X e ta) (hb : attributeBase e f X.env (eval e X.env) = eval e X.env) : PE X (.Attribute e f pos) (tFld X.K ta f) := by
  intro pins s σ H Q I h
  refine attr_of hb (thn (he pins s σ H _ I h) fun u s1 ⟨x, H1, I1, rx, a, C, dx, fs, v, ex, ea, c, n, l, q⟩ => ?_)
  subst ex
  obtain rfl : u = Value.ref a := rx
  exact getattr_ok I1 ea c n l fun u' s2 I2 ru => ⟨v, H1, I2, ru, q⟩
theorem ps_fld (ha : PE X o ta) (hv : PE X value tv) (hs : swapsWith value (some (.Attribute o f pos')) pos.line X.env = pure false) : PS X (.Assign [.Attribute o f pos'] value pos) (sFld X.K ta tv f) := by
  intro pins s σ H D I h
  refine plainObj_wpAny_Assign_Attribute (thn (hv pins s σ H _ I h) fun u s1 ⟨y, H1, I1, ry, q⟩ => thn (ha pins s1 σ H1 _ I1 q) fun ov s2 ⟨x, H2, I2, rx, a, C, dx, fs, ex, ea, c, n, l, q2⟩ => ?_) hs
  subst ex
  obtain rfl : ov = Value.ref a := rx
  exact setattr_ok I2 ea c n l ry fun s3 I3 => ⟨σ, _, I3, q2⟩

end

/-! ### isinstance -/
section
variable {X : Cx} {pins : List (Addr × Obj)} {σ : St} {H : Hp} {s : Shared} {A : Around} {E : Value → Shared → Prop} {Q : Value → Shared → Prop} {c : Value} {b : Bool}
/-- the type of a value, as the fragment's deciders take it; for an instance its class -/
inductive TyOf (K : PySem.W.Frag) (H : Hp) : V → Value → Prop where
  | non : TyOf K H .non (.type "NoneType")
  | bl (x : Bool) : TyOf K H (.bl x) (.type "bool")
  | int (i : Int) : TyOf K H (.int i) (.type "int")
  | str (x : Str) : TyOf K H (.str x) (.type "str")
  | flt (x : UInt64) : TyOf K H (.flt x) (.type "float")
  | lst {a : Addr} {xs : List V} (e : H a = some (.lst xs)) : TyOf K H (.ref a) (.type "list")
  | frz {a : Addr} {o : Obj} {xs : List V} (e : H a = some (.frz o (.lst xs))) : TyOf K H (.ref a) (.type "list")
  | tup {a : Addr} {xs : List V} (e : H a = some (.tup xs)) : TyOf K H (.ref a) (.type "tuple")
  | dK {a : Addr} {kvs : List (Key × V)} (e : H a = some (.dK kvs)) : TyOf K H (.ref a) (.type "dict")
  | dT {a : Addr} {kvs : List (List Key × V)} (e : H a = some (.dT kvs)) : TyOf K H (.ref a) (.type "dict")
  | ins {a C dx : Addr} {fs : List (Str × V)} (e : H a = some (.ins C dx fs)) (cl : Cls K C) (ha : PySem.W.findIn K (.ref C) "__class__" = some (some (.builtin "object.__class__")))
      (hn : PySem.W.specialIn K (.builtin "object.__class__") "__get__" = some (some (.builtin "getset_descriptor.__get__"))) (htk : PySem.W.takesIn K (.builtin "object.__class__") = some true)
      (hm : PySem.W.mroIn K C (.type "object") = some true) : TyOf K H (.ref a) (.ref C)
/-- isinstance(x, c) for one class c, a built-in or an own one: kitOne's answer -/
theorem isinst_ok {x : V} {u t : Value} (I : Inv X pins σ H s) (rx : RelV x u) (ty : TyOf X.K H x t) (e : PySem.W.kitOne X.K t c = some b) (h : ∀ tk, Q (.bool b) { s with toks := tk }) :
    wpAny (model X.prog X.w) A (call (.builtin "isinstance") [u, c]) Q E s := by
  cases ty with
  | non => cases (show u = Value.none from rx); exact PySem.W.kia_one PySem.W.kitx_none I.kIn True.intro e (fun z => nomatch z) h
  | bl y => cases (show u = Value.bool y from rx); exact PySem.W.kia_one PySem.W.kitx_bool I.kIn True.intro e (fun z => nomatch z) h
  | int i => obtain ⟨t, q⟩ := (show ∃ t, u = Value.int i t from rx); cases q; exact PySem.W.kia_one PySem.W.kitx_int I.kIn True.intro e (fun z => nomatch z) h
  | str y => obtain ⟨t, q⟩ := (show ∃ t, u = Value.str y t from rx); cases q; exact PySem.W.kia_one PySem.W.kitx_str I.kIn True.intro e (fun z => nomatch z) h
  | flt y => obtain ⟨t, q⟩ := (show ∃ t, u = Value.float y t from rx); cases q; exact PySem.W.kia_one PySem.W.kitx_float I.kIn True.intro e (fun z => nomatch z) h
  | @lst a xs ea =>
    cases (show u = Value.ref a from rx)
    obtain ⟨_, _, n, _, h1⟩ := (show ObjOk X.prog X.w H s.heap a (.lst xs) from I.hok a _ ea)
    exact PySem.W.kia_one PySem.W.kitx_list I.kIn ⟨_, h1, rfl⟩ e (fun z => nomatch z) h
  | @frz a ob xs ea =>
    cases (show u = Value.ref a from rx)
    obtain ⟨_, _, _, n, _, h1⟩ := (show ObjOk X.prog X.w H s.heap a (.frz ob (.lst xs)) from I.hok a _ ea)
    exact PySem.W.kia_one PySem.W.kitx_list I.kIn ⟨_, h1, rfl⟩ e (fun z => nomatch z) h
  | @tup a xs ea =>
    cases (show u = Value.ref a from rx)
    obtain ⟨_, _, _, p⟩ := (show ObjOk X.prog X.w H s.heap a (.tup xs) from I.hok a _ ea)
    obtain ⟨o, h1, h2, _⟩ := p
    exact PySem.W.kia_one PySem.W.kitx_tuple I.kIn ⟨o, h1, h2⟩ e (fun z => nomatch z) h
  | @dK a kvs ea =>
    cases (show u = Value.ref a from rx)
    obtain ⟨_, _, vs, _, p⟩ := (show ObjOk X.prog X.w H s.heap a (.dK kvs) from I.hok a _ ea)
    obtain ⟨o, es, ep, h1, h2, _⟩ := p
    exact PySem.W.kia_one PySem.W.kitx_dict I.kIn ⟨o, h1, h2.1⟩ e (fun z => nomatch z) h
  | @dT a kvs ea =>
    cases (show u = Value.ref a from rx)
    obtain ⟨_, _, xs, _, o, es, ep, h1, h2, _⟩ := (show ObjOk X.prog X.w H s.heap a (.dT kvs) from I.hok a _ ea)
    exact PySem.W.kia_one PySem.W.kitx_dict I.kIn ⟨o, h1, h2.1⟩ e (fun z => nomatch z) h
  | @ins a C dx fs ea cl ha hn htk hm =>
    cases (show u = Value.ref a from rx)
    obtain ⟨mA, O, _⟩ := ins_get I.hok ea
    obtain ⟨od, J, _⟩ := O.look
    exact PySem.W.kia_one (PySem.W.kitx_own (cl.get _) cl.hd ha hn htk hm) I.kIn J e (fun z => nomatch z) h
end
end L2

namespace L2
open PySem PySem.Spec PyProof.Rows

/-! ### room -/
structure Room (k : Nat) (A : Around) : Prop where
  hd : A.handled = none
  dp : A.depth + 3 * k + 5 < recursionLimit
  un : A.units + 16 * k + 200 < cLine
theorem Room.mono {j k : Nat} {A : Around} (r : Room k A) (h : j ≤ k) : Room j A := ⟨r.hd, by have := r.dp; omega, by have := r.un; omega⟩
theorem Room.deeper {k : Nat} {A : Around} (r : Room (k + 1) A) (env : Env) : Room k (A.deeper env) :=
  ⟨r.hd, by have := r.dp; show A.depth + 1 + 3 * k + 5 < _; omega, by have := r.un; show A.units + 3 + 16 * k + 200 < _; omega⟩
theorem make_depth {A : Around} {C : Addr} {us : List Value} {kw : List (Str × Value)} : (A.under (.builtin "type.__call__" ⟨.ref C :: us, kw⟩)).depth = A.depth + 1 := by
  first | rfl | simp [Around.under, Code.weight, Code.isCreation, Code.isGuard, Code.isCaller, Code.frames, Code.isFrame, guardIds]
theorem make_units {A : Around} {C : Addr} {us : List Value} {kw : List (Str × Value)} : (A.under (.builtin "type.__call__" ⟨.ref C :: us, kw⟩)).units = A.units + 1 := by
  first | rfl | simp [Around.under, Code.cUnits, Code.frames, Code.isFrame]
theorem Room.make {k : Nat} {A : Around} (r : Room (k + 1) A) (C : Addr) (us : List Value) (kw : List (Str × Value)) : Room k (A.under (.builtin "type.__call__" ⟨.ref C :: us, kw⟩)) :=
  ⟨r.hd, by have := r.dp; rw [make_depth]; omega, by have := r.un; rw [make_units]; omega⟩
theorem Room.depth {k : Nat} {A : Around} (r : Room k A) : A.depth < recursionLimit := by have := r.dp; omega
theorem Room.units {k : Nat} {A : Around} (r : Room k A) : A.units + 64 < cLine := by have := r.un; omega

/-! ### argument lists and displays -/
noncomputable def tNil : TA := fun _ H Q => Q [] H
noncomputable def tCons (ta : TE) (tr : TA) : TA := fun σ H Q => ta σ H fun x H1 => tr σ H1 fun xs H2 => Q (x :: xs) H2
section
variable {X : Cx} {e : Expr} {es : List Expr} {te : TE} {t : TA} {pos : Pos}
theorem pa_nil : PA X [] tNil := fun _ _ _ _ H Q I h => Calls.spliced_nil ⟨[], H, I, .nil, h⟩
theorem pa_cons (ha : PE X e te) (hr : PA X es t) (hs : starEach (e :: es) X.env = (false, eval e X.env) :: starEach es X.env := by rfl) : PA X (e :: es) (tCons te t) := by
  intro pos pins s σ H Q I h
  rw [hs]
  show wpAny _ _ (spliced ((false, eval e X.env) :: backTo pos (starEach es X.env))) _ _ s
  refine Calls.spliced_cons (thn (ha pins s σ H _ I h) fun u s1 ⟨x, H1, I1, r1, q1⟩ => ?_)
  exact thn (hr pos pins s1 σ H1 _ I1 q1) fun us s2 ⟨xs, H2, I2, r2, q2⟩ => ⟨x :: xs, H2, I2, .cons r1 r2, q2⟩

/-- a tuple, a list of written items -/
noncomputable def tTup (t : TA) : TE := fun σ H Q => t σ H fun xs H1 => xs.length ≤ sizeLine ∧ ∀ p, H1 p = none → Q (.ref p) (upd H1 p (.tup xs))
noncomputable def tLst (t : TA) : TE := fun σ H Q => t σ H fun xs H1 => xs.length ≤ sizeLine ∧ ∀ p, H1 p = none → Q (.ref p) (upd H1 p (.lst xs))
theorem pe_tup {x1} (h : PA X es t) : PE X (.Tuple es x1 pos) (tTup t) := by
  intro pins s σ H Q I hq
  refine wpAny_Tuple_spliced (thn (h pos pins s σ H _ I hq) fun us s1 ⟨xs, H1, I1, r, z, q⟩ => ⟨by rw [← r.length]; exact z, ?_⟩)
  have hf : H1 s1.heap.objs.size = none := I1.hok.fresh (Nat.le_refl _)
  refine ⟨.ref s1.heap.objs.size, upd H1 s1.heap.objs.size (.tup xs), I1.laid (t' := s1.toks) (fun b u e => Heap.get?_push_of_some _ e) (Nat.le_refl _) ?_, rfl, q _ hf⟩
  exact ⟨z, us, r, ⟨_, Heap.get?_push_size _ rfl, rfl, _, rfl⟩⟩
theorem pe_lst (h : PA X es t) : PE X (.List es pos) (tLst t) := by
  intro pins s σ H Q I hq
  refine wpAny_List_spliced (thn (h pos pins s σ H _ I hq) fun us s1 ⟨xs, H1, I1, r, z, q⟩ => ⟨by rw [← r.length]; exact z, ?_⟩)
  have hf : H1 s1.heap.objs.size = none := I1.hok.fresh (Nat.le_refl _)
  refine ⟨.ref s1.heap.objs.size, upd H1 s1.heap.objs.size (.lst xs), I1.laid (t' := s1.toks) (fun b u e => Heap.get?_push_of_some _ e) (Nat.le_refl _) ?_, rfl, q _ hf⟩
  exact ⟨z, us, 0, r, Heap.get?_push_size _ rfl⟩
end

/-! ### what a def promises -/
/-- a def's promise: the bound arguments in the parameters' order, the heap, the wanted end, the wanted exception -/
noncomputable abbrev Sp := List V → Hp → VK → XK → Prop
/-- how an exception lies behind a call (file 08 gives it): the callers' frames, abstract heap and state ahead of the call, the wish, the exception, the state -/
noncomputable abbrev CXT := List Env → Hp → Shared → XK → Value → Shared → Prop

/-- the state at a call -/
structure Env0 (P : Program) (w : World) (K : PySem.W.Frag) (mg : Str → Option Value) (base : Heap) (A : Around) (outer : List Env) (s : Shared) (H : Hp) : Prop where
  frames : A.frames = some outer
  mod : Mod K mg base
  bs : ∀ b o, base.get? b = some o → s.heap.get? b = some o ∧ H b = none
  bsz : base.objs.size ≤ s.heap.objs.size
  funs : s.heap.FunFrames base outer
  frf : ∀ b ∈ frs outer, H b = none
  hok : HOk P w H s.heap
  bare : AllBare s.gens
/-- a call's end -/
noncomputable def CE (outer : List Env) (P : Program) (w : World) (H : Hp) (s : Shared) (Q : VK) (u : Value) (s' : Shared) : Prop :=
  ∃ v H', s'.os = s.os ∧ AllBare s'.gens ∧ Un (frs outer) [] H H' s.heap s'.heap ∧ HOk P w H' s'.heap ∧ RelV v u ∧ Q v H'
noncomputable def CR (CX : CXT) (outer : List Env) (P : Program) (w : World) (H : Hp) (s : Shared) (Q : VK) (E : XK) (r : Result) (s' : Shared) : Prop :=
  match r with
  | .ok (.ret u) => CE outer P w H s Q u s'
  | .ok _ => False
  | .error e => CX outer H s E e s'
structure FnOk (P : Program) (w : World) (K : PySem.W.Frag) (mg : Str → Option Value) (base : Heap) (CX : CXT) (k : Nat) (f : Addr) (fd : FuncData) (ps : List Str) (sp : Sp) : Prop where
  len : ∀ vs H Q E, sp vs H Q E → vs.length = ps.length
  run : ∀ (A : Around) (outer : List Env) (s : Shared) (H : Hp) (args : Args) (us : List Value) (vs : List V) (Q : VK) (E : XK), Room k A → Env0 P w K mg base A outer s H → BindsTo s fd args (ps.zip us) → Vals vs us → sp vs H Q E →
    codeAny (model P w) A (.call (.ref f) args) (CR CX outer P w H s Q E) s
theorem FnOk.mono {P : Program} {w : World} {K : PySem.W.Frag} {mg : Str → Option Value} {base : Heap} {CX : CXT} {j k : Nat} {f : Addr} {fd : FuncData} {ps : List Str} {sp : Sp} (F : FnOk P w K mg base CX j f fd ps sp) (h : j ≤ k) :
    FnOk P w K mg base CX k f fd ps sp := ⟨F.len, fun A outer s H args us vs Q E hr => F.run A outer s H args us vs Q E (hr.mono h)⟩

theorem Env0.make {P : Program} {w : World} {K : PySem.W.Frag} {mg : Str → Option Value} {base : Heap} {A : Around} {outer : List Env} {s : Shared} {H : Hp} (e : Env0 P w K mg base A outer s H) (C : Addr) (us : List Value) (kw : List (Str × Value)) :
    Env0 P w K mg base (A.under (.builtin "type.__call__" ⟨.ref C :: us, kw⟩)) outer s H := ⟨by first | exact e.frames | (simpa [Around.under, Code.envs, Code.isFrame, pushEnvs] using e.frames), e.mod, e.bs, e.bsz, e.funs, e.frf, e.hok, e.bare⟩

section
variable {X : Cx} {pins : List (Addr × Obj)} {σ : St} {H : Hp} {s s' : Shared}
/-- from a body: what a callee wants -/
theorem Inv.env0 (I : Inv X pins σ H s) : Env0 X.prog X.w X.K X.mg X.base X.A X.stack s H :=
  ⟨I.ok.frames, I.ok.mod, I.bs, Nat.le_trans I.ok.bsz I.sz, I.stack, I.stkFree, I.hok, I.bare⟩
/-- behind a call -/
theorem Inv.after {Q : VK} {u : Value} (I : Inv X pins σ H s) (h : CE X.stack X.prog X.w H s Q u s') : EP X pins σ Q u s' := by
  obtain ⟨v, H', os, bare, un, hok, r, q⟩ := h
  obtain ⟨hh, g, d, t, os'⟩ := s'
  obtain rfl : os' = s.os := os
  exact ⟨v, H', I.call (h' := hh) (g' := g) (d' := d) (t' := t) (ch := []) un hok bare (fun b z => absurd z (by simp)), r, q⟩
end

/-! ### calls -/
/-- f(..): the written arguments, then the defaults dvs; E: what is wanted of an exception -/
noncomputable def tCall (sp : Sp) (dvs : List V) (E : XK) (t : TA) : TE := fun σ H Q => t σ H fun vs H1 => sp (vs ++ dvs) H1 Q E
/-- o.m(..) of an instance of the class at C -/
noncomputable def tMeth (C : Addr) (m : Str) (sp : Sp) (dvs : List V) (E : XK) (ta : TE) (t : TA) : TE := fun σ H Q => ta σ H fun x H1 => ∃ a dx fs, x = .ref a ∧ H1 a = some (.ins C dx fs) ∧ fs.lookup m = none ∧
  t σ H1 fun vs H2 => sp (x :: (vs ++ dvs)) H2 Q E
/-- C(..): a new instance and its dict, then __init__ -/
noncomputable def tMake (C : Addr) (sp : Sp) (dvs : List V) (E : XK) (t : TA) : TE := fun σ H Q => t σ H fun vs H1 => ∀ x dx, H1 x = none → H1 dx = none → dx ≠ x →
  sp (.ref x :: (vs ++ dvs)) (upd (upd H1 dx (.own x)) x (.ins C dx [])) (fun v H2 => v = .non ∧ Q (.ref x) H2) E

/-- how the parameters are bound: us the positional arguments, kw the keywords' values by name, ds the defaults that fill up -/
noncomputable def Binds (K : PySem.W.Frag) (fd : FuncData) (ps : List Str) (ds : List Value) : Prop :=
  ∀ (s : Shared) (us : List Value), K.In s.heap → (us ++ ds).length = ps.length → BindsTo s fd ⟨us, []⟩ (ps.zip (us ++ ds))
/-- every parameter is given -/
theorem Binds.all {K : PySem.W.Frag} {fd : FuncData} {ps : List Str} (h : ∀ us : List Value, us.length = ps.length → bindArgs fd ⟨us, []⟩ = pure (ps.zip us)) : Binds K fd ps [] := fun s us _ hl => by
  rw [List.append_nil] at hl ⊢
  exact .of_eq (h us hl)

/-- an exception of a callee reaches what this body wants of exceptions -/
noncomputable def Passes (CX : CXT) (X : Cx) (E : XK) : Prop := ∀ (pins : List (Addr × Obj)) (σ : St) (H : Hp) (s : Shared) (e : Value) (s' : Shared), Inv X pins σ H s → CX X.stack H s E e s' → X.xe e s'

section
variable {X : Cx} {CX : CXT} {k : Nat} {f C : Addr} {fd : FuncData} {ps : List Str} {sp : Sp} {dvs : List V} {ds : List Value} {E : XK} {x m : Str} {p pos apos : Pos} {e o : Expr} {es : List Expr} {ta : TE} {t : TA}

/-- the callee runs -/
theorem run_fn {pins : List (Addr × Obj)} {σ : St} {H : Hp} {s : Shared} {Q : VK} {us : List Value} {vs : List V} (F : FnOk X.prog X.w X.K X.mg X.base CX k f fd ps sp) (hr : Room k X.A) (hb : Binds X.K fd ps ds) (hd : Vals dvs ds) (hx : Passes CX X E)
    (I : Inv X pins σ H s) (r : Vals vs us) (h : sp (vs ++ dvs) H Q E) : wpAny (model X.prog X.w) X.A (call (.ref f) us) (EP X pins σ Q) X.xe s := by
  have r2 : Vals (vs ++ dvs) (us ++ ds) := r.append hd
  have hl : (us ++ ds).length = ps.length := by rw [← r2.length]; exact F.len _ _ _ _ h
  refine wpAny_call (codeAny_mono (F.run X.A X.stack s H ⟨us, []⟩ (us ++ ds) (vs ++ dvs) Q E hr I.env0 (hb s us I.kIn hl) r2 h) fun r s' hq => ?_)
  cases r with
  | error e => exact hx pins σ H s e s' I hq
  | ok fl =>
    cases fl with
    | ret u => exact I.after hq
    | next => exact False.elim hq
    | brk => exact False.elim hq
    | cont => exact False.elim hq

theorem pe_call (F : FnOk X.prog X.w X.K X.mg X.base CX k f fd ps sp) (hr : Room k X.A) (hg : Gl X x) (hm : X.mg x = some (.ref f)) (hk : PySem.W.keepIn X.K (.ref f) = true) (hb : Binds X.K fd ps ds) (hd : Vals dvs ds) (hx : Passes CX X E)
    (ha : PA X (e :: es) t) (hdb : (x == ("__debug__" : Str)) = false := by decide) (he : starEach (e :: es) X.env = (false, eval e X.env) :: starEach es X.env := by rfl) (hpl : (backTo pos (starEach es X.env)).any (·.1) = false := by rfl) :
    PE X (.Call (.Name x p) (e :: es) [] pos) (tCall sp dvs E t) := by
  intro pins s σ H Q I h
  refine wpAny_Call_Name_kw (ld_glob I hg hm ?_ hdb)
  refine PySem.W.callWith_K (h₀ := X.base) I.ok.mod.kin hk (thn (ha pos pins s σ H _ I h) fun us s1 ⟨vs, H1, I1, r, q⟩ => ⟨I1.kIn, ?_⟩) he hpl
  exact run_fn F hr hb hd hx I1 r q

/-- o.m(e, ..) -/
theorem pe_meth {pl : Sem Bool} (he : PE X o ta) (c : Cls X.K C) (hm : Meth X.K C m f) (F : FnOk X.prog X.w X.K X.mg X.base CX k f fd ps sp) (hr : Room k X.A) (hb : Binds X.K fd ps ds) (hd : Vals dvs ds) (hx : Passes CX X E) (ha : PA X (e :: es) t)
    (hst : starEach (e :: es) X.env = (false, eval e X.env) :: starEach es X.env := by rfl) (hpl : (backTo pos (starEach es X.env)).any (·.1) = false := by rfl)
    (ht : eval (.Call (.Attribute o m apos) (e :: es) [] pos) X.env = (do
      let ov ← eval o X.env
      standAt apos.atName
      let (f, first) ← holding [ov] (getMethod ov m pl)
      callWith pos f first (backTo pos (starEach (e :: es) X.env)) (backToKw pos (keywordEach [] X.env))) := by rfl) :
    PE X (.Call (.Attribute o m apos) (e :: es) [] pos) (tMeth C m sp dvs E ta t) := by
  intro pins s σ H Q I h
  refine PySem.W.methodCall_KW (pl := pl) (thn (he pins s σ H _ I h) fun u s1 ⟨x, H1, I1, rx, a, dx, fs, ex, ea, l, q⟩ => ?_) ht
  subst ex
  obtain rfl : u = Value.ref a := rx
  refine getmeth_ok I1 ea c hm l ?_
  refine PySem.W.callWith_K (first := [.ref a]) (h₀ := X.base) I.ok.mod.kin hm.kp (thn (ha pos pins s1 σ H1 _ I1 q) fun us s2 ⟨vs, H2, I2, r, q2⟩ => ⟨I2.kIn, ?_⟩) hst hpl
  exact run_fn (us := .ref a :: us) (vs := .ref a :: vs) F hr hb hd hx I2 (.cons rfl r) q2

/-- what a class must have to be made -/
structure Mk (K : PySem.W.Frag) (C f : Addr) : Prop where
  makes : PySem.W.makesIn K C = true
  init : PySem.W.findIn K (.ref C) "__init__" = some (some (.ref f))
  fn : PySem.W.isFn K (.ref f) = true
  kp : PySem.W.keepIn K (.ref C) = true

theorem run_make {pins : List (Addr × Obj)} {σ : St} {H : Hp} {s : Shared} {Q : VK} {us : List Value} {vs : List V} (M : Mk X.K C f) (F : FnOk X.prog X.w X.K X.mg X.base CX k f fd ps sp) (hr : Room (k + 1) X.A) (hb : Binds X.K fd ps ds) (hd : Vals dvs ds)
    (hx : Passes CX X E) (I : Inv X pins σ H s) (r : Vals vs us)
    (h : ∀ x dx, H x = none → H dx = none → dx ≠ x → sp (.ref x :: (vs ++ dvs)) (upd (upd H dx (.own x)) x (.ins C dx [])) (fun v H2 => v = .non ∧ Q (.ref x) H2) E) :
    wpAny (model X.prog X.w) X.A (call (.ref C) us) (EP X pins σ Q) X.xe s := by
  have hq := h (s.heap.objs.size + 1) s.heap.objs.size (I.hok.fresh (Nat.le_succ _)) (I.hok.fresh (Nat.le_refl _)) (Nat.ne_of_lt (Nat.lt_succ_self _))
  have I2 := Inv.made (C := C) I
  have r2 : Vals (V.ref (s.heap.objs.size + 1) :: (vs ++ dvs)) (Value.ref (s.heap.objs.size + 1) :: (us ++ ds)) := .cons rfl (r.append hd)
  have hl : (Value.ref (s.heap.objs.size + 1) :: us ++ ds).length = ps.length := by
    have e := r2.length
    rw [F.len _ _ _ _ hq] at e
    exact e.symm
  refine wpAny_call (make_map (f := f) I.kIn M.makes M.init (beq_iff_eq.mp M.fn) (codeAny_mono (F.run _ X.stack _ _ ⟨Value.ref (s.heap.objs.size + 1) :: us, []⟩ (Value.ref (s.heap.objs.size + 1) :: (us ++ ds)) _ _ E (hr.make C us [])
    (I2.env0.make C us []) (hb _ (Value.ref (s.heap.objs.size + 1) :: us) I2.kIn hl) r2 hq) fun r s' hq' => ?_))
  cases r with
  | error e => exact hx pins σ _ _ e s' I2 hq'
  | ok fl =>
    cases fl with
    | ret u =>
      obtain ⟨v, H', I3, rv, ev, q3⟩ := I2.after hq'
      subst ev
      exact ⟨rv, ⟨V.ref (s.heap.objs.size + 1), H', I3, rfl, q3⟩⟩
    | next => exact False.elim hq'
    | brk => exact False.elim hq'
    | cont => exact False.elim hq'
theorem pe_make (M : Mk X.K C f) (F : FnOk X.prog X.w X.K X.mg X.base CX k f fd ps sp) (hr : Room (k + 1) X.A) (hg : Gl X x) (hm : X.mg x = some (.ref C)) (hb : Binds X.K fd ps ds) (hd : Vals dvs ds) (hx : Passes CX X E)
    (ha : PA X (e :: es) t) (hdb : (x == ("__debug__" : Str)) = false := by decide) (he : starEach (e :: es) X.env = (false, eval e X.env) :: starEach es X.env := by rfl) (hpl : (backTo pos (starEach es X.env)).any (·.1) = false := by rfl) :
    PE X (.Call (.Name x p) (e :: es) [] pos) (tMake C sp dvs E t) := by
  intro pins s σ H Q I h
  refine wpAny_Call_Name_kw (ld_glob I hg hm ?_ hdb)
  refine PySem.W.callWith_K (h₀ := X.base) I.ok.mod.kin M.kp (thn (ha pos pins s σ H _ I h) fun us s1 ⟨vs, H1, I1, r, q⟩ => ⟨I1.kIn, ?_⟩) he hpl
  exact run_make M F hr hb hd hx I1 r q
end

/-! ### keywords -/
section
variable {X : Cx} {CX : CXT} {k : Nat} {f C : Addr} {fd : FuncData} {ps ks : List Str} {sp : Sp} {E : XK} {x m : Str} {p pos apos kpos : Pos} {e o : Expr} {es : List Expr} {kws : List Keyword} {te ta : TE} {t tk : TA} {nm : Option Str}

variable {g : List Value → List Value → List Value} {gV : List V → List V → List V}
end

/-! ### a def's body keeps its promise -/
/-- names: the parameters first -/
structure FnScope (N P : List Str) (sc : Scope) : Prop where
  kind : sc.kind = .function
  co : sc.isCoroutine = false
  gen : sc.isGenerator = false
  nd : N.Nodup
  pre : N.take P.length = P
  par : ∀ x ∈ P, sc.names.lookup x = some .local ∨ sc.names.lookup x = some .cell
  nofree : ∀ y ∈ sc.names, y.2 ≠ .free

theorem bindL_out {kindOf : Str → Option NameKind} {x : Str} : ∀ {binds : List (Str × Value)} {m : Str → Option Value}, (∀ v, (x, v) ∉ binds) → bindL kindOf binds m x = m x
  | [], _, _ => rfl
  | (n, v) :: r, m, h => by
    unfold bindL
    rw [bindL_out fun w hw => h w (List.mem_cons_of_mem _ hw)]
    split
    · have : x ≠ n := by rintro rfl; exact h v List.mem_cons_self
      simp [this]
    · rfl
theorem bindC_out {kindOf : Str → Option NameKind} {x : Str} : ∀ {binds : List (Str × Value)} {m : Str → Option Value}, (∀ v, (x, v) ∉ binds) → bindC kindOf binds m x = m x
  | [], _, _ => rfl
  | (n, v) :: r, m, h => by
    unfold bindC
    rw [bindC_out fun w hw => h w (List.mem_cons_of_mem _ hw)]
    split
    · rfl
    · have : x ≠ n := by rintro rfl; exact h v List.mem_cons_self
      simp [this]
theorem bindL_get {kindOf : Str → Option NameKind} {x : Str} {v : Value} : ∀ {P : List Str} {vs : List Value} {i : Nat} {m : Str → Option Value}, P.Nodup → P[i]? = some x → vs[i]? = some v → kindOf x = some .local →
    bindL kindOf (P.zip vs) m x = some v
  | [], _, _, _, _, h, _, _ => by simp at h
  | _ :: _, [], _, _, _, _, h, _ => by simp at h
  | p :: P, w :: vs, 0, m, nd, h1, h2, hk => by
    simp at h1 h2; subst h1; subst h2
    show bindL kindOf ((p, w) :: P.zip vs) m p = _
    unfold bindL
    rw [bindL_out fun v hv => (List.nodup_cons.mp nd).1 (List.of_mem_zip hv).1, if_pos hk]
    simp
  | p :: P, w :: vs, i + 1, m, nd, h1, h2, hk => by
    show bindL kindOf ((p, w) :: P.zip vs) m x = _
    unfold bindL
    exact bindL_get (i := i) (List.nodup_cons.mp nd).2 (by simpa using h1) (by simpa using h2) hk
theorem bindC_get {kindOf : Str → Option NameKind} {x : Str} {v : Value} : ∀ {P : List Str} {vs : List Value} {i : Nat} {m : Str → Option Value}, P.Nodup → P[i]? = some x → vs[i]? = some v → kindOf x ≠ some .local →
    bindC kindOf (P.zip vs) m x = some v
  | [], _, _, _, _, h, _, _ => by simp at h
  | _ :: _, [], _, _, _, _, h, _ => by simp at h
  | p :: P, w :: vs, 0, m, nd, h1, h2, hk => by
    simp at h1 h2; subst h1; subst h2
    show bindC kindOf ((p, w) :: P.zip vs) m p = _
    unfold bindC
    rw [bindC_out fun v hv => (List.nodup_cons.mp nd).1 (List.of_mem_zip hv).1, if_neg hk]
    simp
  | p :: P, w :: vs, i + 1, m, nd, h1, h2, hk => by
    show bindC kindOf ((p, w) :: P.zip vs) m x = _
    unfold bindC
    exact bindC_get (i := i) (List.nodup_cons.mp nd).2 (by simpa using h1) (by simpa using h2) hk

/-- the names' values at the entry -/
noncomputable def start (N : List Str) (vs : List V) : St := vs.map some ++ List.replicate (N.length - vs.length) none

/-- the context of a def's body, at its entry; an exception leaves the frame, then lies as CX says -/
noncomputable def cxOf (CX : CXT) (P : Program) (w : World) (K : PySem.W.Frag) (mg : Str → Option Value) (base : Heap) (N : List Str) (qual : Str) (scope : Scope) (f : Addr) (cd : Value) (A : Around) (outer : List Env) (s : Shared) (H : Hp) (E : XK) : Cx where
  prog := P
  w := w
  K := K
  mg := mg
  base := base
  A := A.deeper (envOfC qual scope s.heap.objs.size f cd)
  N := N
  s₀ := s
  H₀ := H
  env := envOfC qual scope s.heap.objs.size f cd
  outer := outer
  stack := envOfC qual scope s.heap.objs.size f cd :: outer
  ex := []
  calm := true
  fn := fun _ => true
  pn := []
  xe := fun e s' => wpAny (model P w) (A.deeper (envOfC qual scope s.heap.objs.size f cd)) (leaving (envOfC qual scope s.heap.objs.size f cd) e) (fun _ s'' => CX outer H s E e s'') (fun e' s'' => CX outer H s E e' s'') s'

theorem cell_has {sc : Scope} {n : Nat} {x : Str} (h : sc.names.lookup x = some .cell) : ∃ c, (cellsFrom n sc.names []).lookup x = some c := by
  have q := PySem.W.cellsFrom_some sc.names n [] (.inl h)
  exact Option.isSome_iff_exists.mp q

theorem inv_start {CX : CXT} {P : Program} {w : World} {K : PySem.W.Frag} {mg : Str → Option Value} {base : Heap} {N ps : List Str} {qual : Str} {scope : Scope} {f : Addr} {cd : Value} {A : Around} {outer : List Env} {s s1 : Shared} {H : Hp} {E : XK} {us : List Value} {vs : List V}
    (S : FnScope N ps scope) (hd : A.handled = none) (e0 : Env0 P w K mg base A outer s H) (hl : vs.length = ps.length) (r : Vals vs us)
    (x : InCallC s s.heap.objs.size (bindL (envOfC qual scope s.heap.objs.size f cd).kindOf (ps.zip us) fun _ => none) (cellsFrom (s.heap.objs.size + 1) scope.names []) (bindC (envOfC qual scope s.heap.objs.size f cd).kindOf (ps.zip us) fun _ => none) s1) :
    Inv (cxOf CX P w K mg base N qual scope f cd A outer s H E) [] (start N vs) H s1 := by
  have hpl : ps.length ≤ N.length := by have := congrArg List.length S.pre; rw [List.length_take] at this; omega
  obtain ⟨h1, tk, rfl, hk⟩ := x.done
  have noA : ∀ b : Addr, b ∉ (cxOf CX P w K mg base N qual scope f cd A outer s H E).ex := fun b z => absurd (show b ∈ ([] : List Addr) from z) (by simp)
  refine ⟨⟨e0.mod, S.kind, rfl, rfl, Nat.le_refl _, fun y z c h1 h2 => ?_, fun y hy => ?_, fun y c _ h => ?_, fun _ => hd, Around.frames_deeper e0.frames, .inr ⟨rfl, rfl⟩, fun b z => absurd z (noA b), e0.bs, e0.bsz, fun b _ _ => noA b, fun b z => absurd z (noA b), e0.funs, e0.frf⟩,
    rfl, e0.bare, Un.kept hk, ⟨_, x.toInCall.ns, fun i y v h1 h2 h3 => ?_⟩, fun y c h => ⟨_, x.cell y c h⟩, e0.hok.fresh (Nat.le_refl _), fun y c h => ?_, fun p hp => absurd (show p ∈ ([] : List (Addr × Obj)) from hp) (by simp), e0.hok.kept hk, ?_⟩
  · exact name_of_addr x.apart (PySem.mem_of_lookup h1) (PySem.mem_of_lookup h2)
  · have hy : scope.names.lookup y = some .cell ∨ scope.names.lookup y = some .free := hy
    rcases hy with hy | hy
    · exact cell_has hy
    · exact absurd rfl (S.nofree _ (PySem.mem_of_lookup hy))
  · exact Nat.le_of_lt (x.above y c (PySem.mem_of_lookup h))
  · have hi : i < vs.length := by
      unfold start at h2
      by_cases hi : i < vs.length
      · exact hi
      · rw [List.getElem?_append_right (by simpa using hi)] at h2
        rw [List.getElem?_replicate] at h2
        split at h2 <;> cases h2
    have ha : vs[i]? = some v := by
      unfold start at h2
      rw [List.getElem?_append_left (by simpa using hi), List.getElem?_map] at h2
      cases e : vs[i]? with
      | none => rw [e] at h2; cases h2
      | some a => rw [e] at h2; cases h2; rfl
    obtain ⟨u, hu, rv⟩ := r.get ha
    have hp : ps[i]? = some y := by
      rw [← S.pre, List.getElem?_take_of_lt (by omega)]; exact h1
    have ndP : ps.Nodup := by rw [← S.pre]; exact S.nd.sublist (List.take_sublist _ _)
    refine ⟨u, rv, ?_⟩
    rcases S.par y (List.mem_of_getElem? hp) with k | k
    · exact .inl ⟨k, bindL_get ndP hp hu k⟩
    · obtain ⟨c, e⟩ := cell_has (n := s.heap.objs.size + 1) k
      refine .inr ⟨.inl k, c, e, ?_⟩
      have q := x.cell y c e
      rw [bindC_get ndP hp hu (by show scope.names.lookup y ≠ _; rw [k]; decide)] at q
      exact q
  · exact e0.hok.fresh (Nat.le_of_lt (x.above y c (PySem.mem_of_lookup h)))
  · unfold start
    show _ = N.length
    rw [List.length_append, List.length_map, List.length_replicate]
    omega

/-- THE RULE: a def (or a method) of the text, by its body. The body's reading t is chosen for each entry; it is run at the parameters' values -/
theorem fn_of {CX : CXT} {P : Program} {w : World} {K : PySem.W.Frag} {mg : Str → Option Value} {base : Heap} {k : Nat} {f : Addr} {name qual : Str} {params : Arguments} {body : List Stmt} {scope : Scope} {dV kV doc pm cdv ct oc : Value} {an od : Option Addr}
    {osl : Array (Option Value)} {N ps : List Str} {sp : Sp} (lk : K.lookup f = some ⟨oc, od, .func (PySem.W.fnOf name qual params body scope dV kV doc pm an cdv ct), osl⟩) (hcd : PySem.W.codeIn K cdv qual = true) (S : FnScope N ps scope)
    (len : ∀ vs H Q E, sp vs H Q E → vs.length = ps.length)
    (hbody : ∀ (A : Around) (outer : List Env) (s : Shared) (H : Hp) (vs : List V) (Q : VK) (E : XK), Room k (A.deeper (envOfC qual scope s.heap.objs.size f cdv)) → sp vs H Q E →
      ∃ t, PSs (cxOf CX P w K mg base N qual scope f cdv A outer s H E) body t ∧ t { nx := fun _ H' => Q .non H', rt := Q } (start N vs) H) :
    FnOk P w K mg base CX (k + 1) f (PySem.W.fnOf name qual params body scope dV kV doc pm an cdv ct) ps sp := by
  refine ⟨len, fun A outer s H args us vs Q E hr e0 hb r hsp => ?_⟩
  have hl := len _ _ _ _ hsp
  have KX : K.In s.heap := e0.mod.kin.keeps fun b o e => (e0.bs b o e).1
  have lim : s.heap.NoLimit := e0.mod.nolimit.keeps fun b o e => (e0.bs b o e).1
  have hkind : ∀ y ∈ ps.zip us, scope.names.lookup y.1 = some .local ∨ (scope.names.lookup y.1 = some .cell ∧ ((cellsFrom (s.heap.objs.size + 1) scope.names []).lookup y.1).isSome = true) := fun ⟨n, v⟩ hy => by
    rcases S.par n (List.of_mem_zip hy).1 with q | q
    · exact .inl q
    · exact .inr ⟨q, PySem.W.cellsFrom_some _ _ _ (.inl q)⟩
  refine codeAny_call_function hr.depth (KX _ _ lk) rfl S.co S.gen rfl (PySem.W.codeRec_of KX hcd) (hb _ _ _ _ ?_)
  refine wpAny_newFunctionEnv_cells S.kind hkind fun env he s1 x => ?_
  subst he
  refine ⟨lim.keeps x.toInCall.keep, codeAny_func ?_⟩
  obtain ⟨t, ht, hq⟩ := hbody A outer s H vs Q E (hr.deeper _) hsp
  have I : Inv (cxOf CX P w K mg base N qual scope f cdv A outer s H E) [] (start N vs) H s1 := inv_start S hr.hd e0 hl r x
  refine wpAny_mono (ht [] s1 (start N vs) H _ I hq) (fun fl s' hs => ?_) fun e s' hs => hs
  have fin : ∀ {σ' : St} {H' : Hp} {v : V} {u : Value}, Inv (cxOf CX P w K mg base N qual scope f cdv A outer s H E) [] σ' H' s' → RelV v u → Q v H' → CE outer P w H s Q u s' :=
    fun {σ' H' v u} J rv q => ⟨v, H', J.os, J.bare, J.base, J.hok, rv, q⟩
  cases fl with
  | ret u =>
    obtain ⟨v, σ', H', J, rv, q⟩ := hs
    exact fin J rv q
  | next =>
    obtain ⟨σ', H', J, q⟩ := hs
    exact fin (v := V.non) (u := Value.none) J rfl q
  | brk =>
    obtain ⟨_, _, _, q⟩ := hs
    exact False.elim q
  | cont =>
    obtain ⟨_, _, _, q⟩ := hs
    exact False.elim q
end L2

namespace L2
open PySem PySem.Spec PyProof.Rows
section
variable {X : Cx} {x : Str} {p pos : Pos} {e : Expr} {es : List Expr} {t : TA} {id T : String} {r : List V → Hp → VK → Prop}

noncomputable def tCB (r : List V → Hp → VK → Prop) (t : TA) : TE := fun σ H Q => t σ H fun vs H1 => r vs H1 Q
/-- f(e, ..), f a built-in function -/
theorem pe_callB (hc : CallR X (.builtin id) r) (hg : Gl X x) (hm : X.mg x = none) (hv : bootBuiltins x = some (.builtin id)) (ha : PA X (e :: es) t) (hn : x ≠ "__name__" := by decide) (hdb : (x == ("__debug__" : Str)) = false := by decide)
    (he : starEach (e :: es) X.env = (false, eval e X.env) :: starEach es X.env := by rfl) (hpl : (backTo pos (starEach es X.env)).any (·.1) = false := by rfl) : PE X (.Call (.Name x p) (e :: es) [] pos) (tCB r t) := by
  intro pins s σ H Q I h
  refine wpAny_Call_Name_kw (ld_blt I hg hm hv ?_ hn hdb)
  exact PyProof.Rows.callWith_builtin1 (thn (ha pos pins s σ H _ I h) fun us s1 ⟨vs, H1, I1, r1, q1⟩ => hc pins s1 σ H1 vs us Q I1 r1 q1) he hpl
/-- T(e, ..), T a built-in type -/
theorem pe_callTy (hc : CallR X (.type T) r) (hg : Gl X x) (hm : X.mg x = none) (hv : bootBuiltins x = some (.type T)) (ha : PA X (e :: es) t) (hn : x ≠ "__name__" := by decide) (hdb : (x == ("__debug__" : Str)) = false := by decide)
    (he : starEach (e :: es) X.env = (false, eval e X.env) :: starEach es X.env := by rfl) (hpl : (backTo pos (starEach es X.env)).any (·.1) = false := by rfl) : PE X (.Call (.Name x p) (e :: es) [] pos) (tCB r t) := by
  intro pins s σ H Q I h
  refine wpAny_Call_Name_kw (ld_blt I hg hm hv ?_ hn hdb)
  exact PyProof.Rows.callWith_type1 (thn (ha pos pins s σ H _ I h) fun us s1 ⟨vs, H1, I1, r1, q1⟩ => hc pins s1 σ H1 vs us Q I1 r1 q1) he hpl
end
end L2

namespace HT
open PySem PyProof.Rows



section
open PySem.SeqAt
open PySem.AutoSeq1 (wpAny_loadPart')
open PySem.MeetsSeq PySem.MeetsSeq2 PySem.MeetsSeq3

end

section
variable {prog : Program} {w : World} {A : Around} {E : Value → Shared → Prop} {s : Shared}



/-! ### t[a:b], not the whole -/
/-- a slice's bound as a place among n (d where it is left out) -/
noncomputable def sIx (n d : Nat) : Option Int → Nat
  | none => d
  | some v => if v < 0 then (v + (n : Int)).toNat else min v.toNat n

end
end HT

namespace L2
open PySem PySem.Spec PyProof.Rows

/-! ### the parts of a slice -/
noncomputable abbrev TO := St → Hp → (Option Int → Hp → Prop) → Prop
/-- a slice's part (left out, or an int) -/
noncomputable def PO (X : Cx) (e : Option Expr) (t : TO) : Prop :=
  ∀ (pins : List (Addr × Obj)) (s : Shared) (σ : St) (H : Hp) (Q : Option Int → Hp → Prop), Inv X pins σ H s → t σ H Q →
    wpAny (model X.prog X.w) X.A (evalPart e X.env) (fun u s' => ∃ o H', Inv X pins σ H' s' ∧ IsPart u o ∧ Q o H') X.xe s
noncomputable def tNoPart : TO := fun _ H Q => Q none H
noncomputable def tPart (t : TE) : TO := fun σ H Q => t σ H fun x H1 => ∃ i, x = .int i ∧ Q (some i) H1


section
variable {X : Cx} {e : Expr} {te : TE} {lo hi : Option Expr} {tl th : TO} {pos p2 : Pos}

theorem po_none : PO X none tNoPart := by
  intro pins s σ H Q I h
  rw [evalPart_none]
  exact wpAny_pure ⟨none, H, I, .none, h⟩
theorem po_some (h : PE X e te) : PO X (some e) (tPart te) := by
  intro pins s σ H Q I hw
  rw [evalPart_some]
  refine thn (h pins s σ H _ I hw) fun u s1 ⟨x, H1, I1, r1, q1⟩ => ?_
  obtain ⟨i, rfl, q⟩ := q1
  obtain ⟨t, rfl⟩ := r1
  exact ⟨some i, H1, I1, .int i t, q⟩

/-- what a slice of a value is, by values: the slice object stands at sl -/
noncomputable def SlR (X : Cx) (r : V → Option Int → Option Int → Hp → VK → Prop) : Prop :=
  ∀ (pins : List (Addr × Obj)) (s : Shared) (σ : St) (H : Hp) (x : V) (v vl vu : Value) (lo hi : Option Int) (sl : Addr) (Q : VK), Inv X pins σ H s → RelV x v → s.heap.IsSliceOf sl vl vu .none → IsPart vl lo → IsPart vu hi → r x lo hi H Q →
    ∃ T id, typeLookup (.type T) "__getitem__" = pure (some (.builtin id)) ∧ s.TypeIs v T ∧ wpAny (model X.prog X.w) X.A (getItem v (.ref sl)) (EP X pins σ Q) X.xe s
noncomputable def tSl (r : V → Option Int → Option Int → Hp → VK → Prop) (te : TE) (tl th : TO) : TE := fun σ H Q => te σ H fun x H1 => tl σ H1 fun l H2 => th σ H2 fun u H3 => r x l u H3 Q
/-- a[lo:hi], any a -/
theorem pe_slice {r : V → Option Int → Option Int → Hp → VK → Prop} (hr : SlR X r) (he : PE X e te) (hl : PO X lo tl) (hu : PO X hi th) : PE X (.Subscript e (.Slice lo hi none p2) pos) (tSl r te tl th) := by
  intro pins s σ H Q I h
  refine Subscript_ (thn (he pins s σ H _ I h) fun v s1 ⟨x, H1, I1, r1, q1⟩ => ?_)
  refine wpAny_Slice (thn (hl pins s1 σ H1 _ I1 q1) fun vl s2 ⟨l, H2, I2, pl, q2⟩ => thn (hu pins s2 σ H2 _ I2 q2) fun vu s3 ⟨u, H3, I3, pu, q3⟩ => ?_)
  rw [evalPart_none]
  refine wpAny_pure ?_
  have I4 : Inv X pins σ H3 { s3 with heap := s3.heap.push { cls := .type "slice", data := .fields #[vl, vu, .none] } } := I3.kept (t' := s3.toks) fun b ob q => Heap.get?_push_of_some _ q
  obtain ⟨T, id, hT, ht, hg⟩ := hr pins { s3 with heap := s3.heap.push { cls := .type "slice", data := .fields #[vl, vu, .none] } } σ H3 x v vl vu l u s3.heap.objs.size Q I4 r1 (Heap.IsSliceOf.new ..) pl pu q3
  show wpAny (model X.prog X.w) X.A (subscriptTail e (.Slice lo hi none p2) v (.ref s3.heap.objs.size)) (EP X pins σ Q) X.xe { s3 with heap := s3.heap.push { cls := .type "slice", data := .fields #[vl, vu, .none] } }
  exact tail_any (ops := [.ref s3.heap.objs.size, v]) ht hT hg (by with_unfolding_all rfl)

/-- the items of xs[lo:hi] -/
noncomputable def cutV (xs : List V) (lo hi : Option Int) : List V := (xs.drop (HT.sIx xs.length 0 lo)).take (HT.sIx xs.length xs.length hi - HT.sIx xs.length 0 lo)
theorem cutV_length (xs : List V) (lo hi : Option Int) : (cutV xs lo hi).length ≤ xs.length := by
  unfold cutV
  rw [List.length_take, List.length_drop]
  omega

/-! ### t < u, t + u -/
end
end L2

namespace L2
open PySem PySem.Spec PyProof.Rows

/-! ### places -/
/-- the place that an index of any sign means -/
noncomputable def ixN (n : Nat) (i : Int) : Option Nat := if 0 ≤ i then (if i < n then some i.toNat else none) else if -(n : Int) ≤ i then some (i + n).toNat else none
noncomputable def atI {α : Type} (xs : List α) (i : Int) : Option α := (ixN xs.length i).bind fun j => xs[j]?
theorem ixN_seq {n : Nat} {i : Int} {j : Nat} (h : ixN n i = some j) : seqIndex? i n = some j ∧ j < n ∧ -(n : Int) ≤ i ∧ i < n := by
  unfold ixN at h
  by_cases h0 : 0 ≤ i
  · rw [if_pos h0] at h
    by_cases h1 : i < n
    · rw [if_pos h1] at h
      have e : i.toNat = j := Option.some.inj h
      exact ⟨by rw [seqIndex_of h0 h1, e], by omega, by omega, h1⟩
    · rw [if_neg h1] at h; cases h
  · rw [if_neg h0] at h
    by_cases h1 : -(n : Int) ≤ i
    · rw [if_pos h1] at h
      have e : (i + n).toNat = j := Option.some.inj h
      exact ⟨by rw [seqIndex_neg (by omega) h1, e], by omega, h1, by omega⟩
    · rw [if_neg h1] at h; cases h
theorem atI_get {α : Type} {xs : List α} {i : Int} {v : α} (h : atI xs i = some v) : ∃ j, seqIndex? i xs.length = some j ∧ xs[j]? = some v ∧ j < xs.length ∧ -(xs.length : Int) ≤ i ∧ i < xs.length := by
  unfold atI at h
  cases e : ixN xs.length i with
  | none => rw [e] at h; cases h
  | some j =>
    rw [e] at h
    obtain ⟨h1, h2, h3, h4⟩ := ixN_seq e
    exact ⟨j, h1, h, h2, h3, h4⟩
theorem atI_nat {α : Type} {xs : List α} {j : Nat} {v : α} (h : xs[j]? = some v) : atI xs (j : Int) = some v := by
  have hj : j < xs.length := (List.getElem?_eq_some_iff.mp h).1
  have e : ixN xs.length (j : Int) = some j := by
    unfold ixN
    rw [if_pos (by omega), if_pos (by omega)]; simp
  unfold atI; rw [e]; exact h

/-! ### what may be subscripted -/
/-- what stands as an index of a plain subscript -/
noncomputable def PlainIx (b : Expr) : Prop := ∀ o i, subscripted b false o i = operate [o, i] (getItem o i)
/-- a subscript by values -/
noncomputable def IxR (X : Cx) (r : R2) : Prop :=
  ∀ (value slice : Expr) (pins : List (Addr × Obj)) (s : Shared) (σ : St) (H : Hp) (x y : V) (v u : Value) (Q : VK), Inv X pins σ H s → RelV x v → RelV y u → r x y H Q →
    subscripted slice false v u = operate [v, u] (getItem v u) → wpAny (model X.prog X.w) X.A (subscriptTail value slice v u) (EP X pins σ Q) X.xe s
/-- a call of a builtin's method by values: the receiver, the arguments -/
noncomputable def MtR (X : Cx) (id : String) (r : V → List V → Hp → VK → Prop) : Prop :=
  ∀ (pins : List (Addr × Obj)) (s : Shared) (σ : St) (H : Hp) (x : V) (xs : List V) (v : Value) (us : List Value) (Q : VK), Inv X pins σ H s → RelV x v → Vals xs us → r x xs H Q →
    wpAny (model X.prog X.w) X.A (call (.builtin id) (v :: us)) (EP X pins σ Q) X.xe s
section
variable {X : Cx} {a b : Expr} {ta tb : TE} {pos : Pos}
/-- a[b] -/
theorem pe_ix {r : R2} (hr : IxR X r) (ha : PE X a ta) (hb : PE X b tb) (hs : PlainIx b) : PE X (.Subscript a b pos) (tOp r ta tb) := by
  intro pins s σ H Q I h
  exact Subscript_ (binT ha hb I h fun v u s2 x y H2 I2 rx ry q => hr a b pins s2 σ H2 x y v u Q I2 rx ry q (hs _ _))

noncomputable def rIxL (K : PySem.W.Frag) : R2 := fun x y H Q => ∃ p xs i v, x = .ref p ∧ y = .int i ∧ SqL K H p xs ∧ atI xs i = some v ∧ Q v H
noncomputable def rIxT (K : PySem.W.Frag) : R2 := fun x y H Q => ∃ p xs i v, x = .ref p ∧ y = .int i ∧ SqT K H p xs ∧ atI xs i = some v ∧ Q v H
noncomputable def rIxS : R2 := fun x y H Q => ∃ z i c, x = .str z ∧ y = .int i ∧ z.length ≤ sizeLine ∧ atI z.cps.toList i = some c ∧ Q (.str ⟨#[c]⟩) H
theorem ix_list : IxR X (rIxL X.K) := by
  intro value slice pins s σ H x y v u Q I rx ry h hs
  obtain ⟨p, xs, i, z, rfl, rfl, hq, he, q⟩ := h
  cases rx
  obtain ⟨t, rfl⟩ := ry
  obtain ⟨its, r, pl, hz⟩ := I.list hq
  obtain ⟨j, h1, h2, h3, h4, h5⟩ := atI_get he
  obtain ⟨w, ew, rw'⟩ := r.get h2
  have hl := r.length
  have hn := line63
  have fin : EP X pins σ Q w s := ⟨z, H, I, rw', q⟩
  by_cases h0 : 0 ≤ i
  · have hj : i.toNat = j := by
      rw [seqIndex_of h0 h5] at h1
      exact Option.some.inj h1
    exact item_listR pl.isList h0 (by omega) (by rw [hj]; simpa using ew) fin hs
  · have hj : (i + (its.toArray.size : Int)).toNat = j := by
      rw [seqIndex_neg (by omega) h4] at h1
      rw [List.size_toArray, ← hl]
      exact Option.some.inj h1
    exact subscriptTail_builtinR (x := w) pl.isList.typeIs slot_list_getitem.lookup
      (wpAny_getItem_list_neg (Q := fun r s' => r = w ∧ EP X pins σ Q r s') pl.isList (by omega) (by rw [List.size_toArray] <;> omega) (by omega) (by rw [hj]; simpa using ew) ⟨rfl, fin⟩) hs
theorem ix_tup : IxR X (rIxT X.K) := by
  intro value slice pins s σ H x y v u Q I rx ry h hs
  obtain ⟨p, xs, i, z, rfl, rfl, hq, he, q⟩ := h
  cases rx
  obtain ⟨t, rfl⟩ := ry
  obtain ⟨its, r, pl, hz⟩ := I.tuple hq
  obtain ⟨j, h1, h2, h3, h4, h5⟩ := atI_get he
  obtain ⟨w, ew, rw'⟩ := r.get h2
  have hl := r.length
  have hn := line63
  have fin : EP X pins σ Q w s := ⟨z, H, I, rw', q⟩
  exact subscriptTail_builtinR (x := w) pl.typeIs slot_tuple_getitem.lookup
    (getItem_tuple (j := j) (Q := fun r s' => r = w ∧ EP X pins σ Q r s') pl (by omega) (by omega) (by rw [List.size_toArray, ← hl]; exact h1) (by simpa using ew) ⟨rfl, fin⟩) hs
theorem ix_str : IxR X rIxS := by
  intro value slice pins s σ H x y v u Q I rx ry h hs
  obtain ⟨z, i, c, rfl, rfl, hz, he, q⟩ := h
  obtain ⟨t, rfl⟩ := rx
  obtain ⟨t', rfl⟩ := ry
  obtain ⟨j, h1, h2, h3, h4, h5⟩ := atI_get he
  have hl : z.cps.toList.length = z.length := by simp [Str.length]
  rw [hl] at h1 h4 h5
  have hn := line63
  exact tail_any (typeIs_str s z t) slot_str_getitem.lookup (getItem_str (c := c) (by
    have e1 : decide (i < -(2 ^ 63 : Int)) = false := decide_eq_false (by omega)
    have e2 : decide (i ≥ 2 ^ 63) = false := decide_eq_false (by omega)
    rw [e1, e2, Bool.or_false]) (by rw [h1]; simpa using h2) ⟨.str ⟨#[c]⟩, H, I.tok _, ⟨_, rfl⟩, q⟩) hs

/-! ### xs[i] = v, any sign -/
/-- the list's object behind a store -/
theorem mapSeq_set (its : List Value) (n j : Nat) (u : Value) : Obj.mapSeq (·.setIfInBounds j u) { cls := .type "list", data := .seq its.toArray n } = { cls := .type "list", data := .seq (its.set j u).toArray n } := by
  simp [Obj.mapSeq]
theorem Inv.lst {pins : List (Addr × Obj)} {σ : St} {H : Hp} {s : Shared} {p : Addr} {xs : List V} (I : Inv X pins σ H s) (h : H p = some (.lst xs)) :
    ∃ (its : List Value) (n : Nat), Vals xs its ∧ s.heap.get? p = some { cls := .type "list", data := .seq its.toArray n } ∧ xs.length ≤ sizeLine := by
  obtain ⟨z, its, n, r, e⟩ := I.hok p _ h
  exact ⟨its, n, r, e, z⟩
/-- the list at p is written by an update of its object -/
theorem Inv.lstUpd {pins : List (Addr × Obj)} {σ : St} {H : Hp} {s : Shared} {p : Addr} {xs ys : List V} {its its' : List Value} {n n' : Nat} {f : Obj → Obj} (I : Inv X pins σ H s) (h : H p = some (.lst xs))
    (ho : s.heap.get? p = some { cls := .type "list", data := .seq its.toArray n }) (hf : f { cls := .type "list", data := .seq its.toArray n } = { cls := .type "list", data := .seq its'.toArray n' }) (r : Vals ys its') (hz : ys.length ≤ sizeLine) (t : Nat) :
    Inv X pins σ (upd H p (.lst ys)) { s with heap := s.heap.update p f, toks := t } := by
  have e : (s.heap.update p f).get? p = some { cls := .type "list", data := .seq its'.toArray n' } := by
    rw [Heap.get?_update_self f ho (by rw [hf] <;> rfl), hf]
  refine I.write (x := p) (e := p) (by rw [h]; trivial) (.inl rfl) (fun b u hb q => (Heap.get?_update_other _ _ (Ne.symm hb)).trans q) ⟨_, e⟩ ?_
  exact ⟨hz, its', n', r, e⟩
noncomputable def rSetL : V → V → V → Hp → (Hp → Prop) → Prop := fun o i v H Q => ∃ p xs k j, o = .ref p ∧ i = .int k ∧ H p = some (.lst xs) ∧ ixN xs.length k = some j ∧ Q (upd H p (.lst (xs.set j v)))
theorem set_list : PSet X rSetL := by
  intro pins s σ H o i v ov iv u Q I ro ri rv h
  obtain ⟨p, xs, k, j, rfl, rfl, hp, hj, q⟩ := h
  cases ro
  obtain ⟨t, rfl⟩ := ri
  obtain ⟨its, n, r, ho, hz⟩ := I.lst hp
  obtain ⟨h1, h2, h3, h4⟩ := ixN_seq hj
  have hl := r.length
  have hn := line63
  have I' : Inv X pins σ (upd H p (.lst (xs.set j v))) { s with heap := s.heap.update p (Obj.mapSeq (·.setIfInBounds j u)) } :=
    I.lstUpd hp ho (mapSeq_set its n j u) (r.set rv j) (by rw [List.length_set]; exact hz) s.toks
  by_cases h0 : 0 ≤ k
  · have hk : k.toNat = j := by
      rw [seqIndex_of h0 h4] at h1
      exact Option.some.inj h1
    exact PySem.W.ki_setAt ho h0 (by omega) (by rw [List.size_toArray, ← hl]; exact h4) (by rw [hk]; exact ⟨_, I', q⟩)
  · have hk : (k + (its.toArray.size : Int)).toNat = j := by
      rw [seqIndex_neg (by omega) h3] at h1
      rw [List.size_toArray, ← hl]
      exact Option.some.inj h1
    exact PySem.W.ki_setBack ho (by omega) (by rw [List.size_toArray, ← hl]; exact h3) (by omega) (by rw [hk]; exact ⟨_, I', q⟩)

/-! ### slices -/
theorem slice_bounds (lo hi : Option Int) (n : Nat) : (sliceBounds lo hi none n).1 = ((HT.sIx n 0 lo : Nat) : Int) ∧ (sliceBounds lo hi none n).2.1 = ((HT.sIx n n hi : Nat) : Int) ∧ (sliceBounds lo hi none n).2.2 = 1 := by
  refine ⟨?_, ?_, rfl⟩
  · cases lo with
    | none => simp [sliceBounds, HT.sIx]
    | some i =>
      simp only [sliceBounds, HT.sIx, Option.getD_none, show (1 : Int) > 0 by decide, if_true]
      by_cases h : i < 0
      · simp only [h, if_true] <;> omega
      · simp only [h, if_false] <;> omega
  · cases hi with
    | none => simp [sliceBounds, HT.sIx]
    | some i =>
      simp only [sliceBounds, HT.sIx, Option.getD_none, show (1 : Int) > 0 by decide, if_true]
      by_cases h : i < 0
      · simp only [h, if_true] <;> omega
      · simp only [h, if_false] <;> omega
theorem slicePick_cut (its : List Value) (lo hi : Option Int) : slicePick its.toArray lo hi none = ((its.drop (HT.sIx its.length 0 lo)).take (HT.sIx its.length its.length hi - HT.sIx its.length 0 lo)).toArray := by
  obtain ⟨h1, h2, h3⟩ := slice_bounds lo hi its.toArray.size
  unfold slicePick
  rw [h1, h2, h3]
  simp only [sliceRange_one, pick_run, List.size_toArray] <;> rfl
/-- xs[lo:hi] of a list: a new list -/
noncomputable def rSlL (K : PySem.W.Frag) : V → Option Int → Option Int → Hp → VK → Prop := fun x lo hi H Q => ∃ a xs, x = .ref a ∧ SqL K H a xs ∧ ∀ p, H p = none → Q (.ref p) (upd H p (.lst (cutV xs lo hi)))
theorem sl_list : SlR X (rSlL X.K) := by
  intro pins s σ H x v vl vu lo hi sl Q I rx hs pl pu h
  obtain ⟨a, xs, rfl, hx, q⟩ := h
  cases rx
  obtain ⟨its, r, ht, hz⟩ := I.list hx
  have hlen := r.length
  refine ⟨"list", _, slot_list_getitem.lookup, ht.isList.typeIs, ?_⟩
  refine wpAny_getItem_list_slice ht.isList hs pl pu .none (by simp) ?_ (by rw [List.size_toArray] <;> omega)
  rw [slicePick_cut, ← hlen]
  refine ⟨.ref s.heap.objs.size, _, I.laid (t' := s.toks) (o := .lst (cutV xs lo hi)) (fun b ob q => Heap.get?_push_of_some _ q) (Nat.le_refl _) ?_, rfl, q _ (I.hok.fresh (Nat.le_refl _))⟩
  exact ⟨Nat.le_trans (cutV_length xs lo hi) hz, _, 0, (r.drop (HT.sIx xs.length 0 lo)).take (HT.sIx xs.length xs.length hi - HT.sIx xs.length 0 lo), Heap.get?_push_size _ rfl⟩

/-! ### in, not in: flat items -/

/-! ### len, list(x), tuple(x) of any list or tuple that is read -/
theorem call_len_seq : CallR X (.builtin "len") (fun xs H Q => ∃ p ys, xs = [.ref p] ∧ (SqL X.K H p ys ∨ SqT X.K H p ys) ∧ Q (.int ys.length) H) := by
  intro pins s σ H xs us Q I r h
  obtain ⟨p, ys, rfl, hq, q⟩ := h
  obtain ⟨u, rfl, rx⟩ := vals1 r
  cases rx
  have hn := line63
  rcases hq with hq | hq
  · obtain ⟨its, r', pl, hz⟩ := I.list hq
    have hlen := r'.length
    exact Calls.call_len_list pl.isList (by simp only [List.size_toArray] <;> omega) ⟨.int ys.length, H, I.tok _, ⟨s.toks + 1, by rw [List.size_toArray, hlen]⟩, q⟩
  · obtain ⟨its, r', pl, hz⟩ := I.tuple hq
    have hlen := r'.length
    exact len_tuple pl (by simp only [List.size_toArray] <;> omega) ⟨.int ys.length, H, I.tok _, ⟨s.toks + 1, by rw [List.size_toArray, hlen]⟩, q⟩
theorem call_list_of : CallR X (.type "list") (fun xs H Q => ∃ p ys, xs = [.ref p] ∧ (SqL X.K H p ys ∨ SqT X.K H p ys) ∧ ∀ l, H l = none → Q (.ref l) (upd H l (.lst ys))) := by
  intro pins s σ H xs us Q I r h
  obtain ⟨p, ys, rfl, hq, q⟩ := h
  obtain ⟨u, rfl, rx⟩ := vals1 r
  cases rx
  have fin : ∀ (its : List Value), Vals ys its → ys.length ≤ sizeLine → ∀ (h' : Heap) (c' : Nat), (∀ b o', s.heap.get? b = some o' → h'.get? b = some o') →
      h'.get? s.heap.objs.size = some { cls := .type "list", dict := none, data := .seq its.toArray c', slots := #[] } → EP X pins σ Q (.ref s.heap.objs.size) { s with heap := h' } := fun its r' hz h' c' kp e =>
    ⟨.ref s.heap.objs.size, _, I.laid (t' := s.toks) kp (Nat.le_refl _) (show ObjOk X.prog X.w _ h' _ (.lst ys) from ⟨hz, its, c', r', e⟩), rfl, q _ (I.hok.fresh (Nat.le_refl _))⟩
  rcases hq with hq | hq
  · obtain ⟨its, r', pl, hz⟩ := I.list hq
    have hlen := r'.length
    obtain ⟨o, ho, hc, n, hd⟩ := pl.isList
    exact call_list_seq p (.inl rfl) ho hc hd (fun h' c' kp e => fin its r' hz h' c' kp e) (by simp only [List.size_toArray] <;> omega)
  · obtain ⟨its, r', pl, hz⟩ := I.tuple hq
    have hlen := r'.length
    obtain ⟨o, ho, hc, n, hd⟩ := pl
    exact call_list_seq p (.inr rfl) ho hc hd (fun h' c' kp e => fin its r' hz h' c' kp e) (by simp only [List.size_toArray] <;> omega)
theorem call_tuple_of : CallR X (.type "tuple") (fun xs H Q => ∃ p ys, xs = [.ref p] ∧ ((SqL X.K H p ys ∧ ∀ l, H l = none → Q (.ref l) (upd H l (.tup ys))) ∨ (SqT X.K H p ys ∧ Q (.ref p) H))) := by
  intro pins s σ H xs us Q I r h
  obtain ⟨p, ys, rfl, h⟩ := h
  obtain ⟨u, rfl, rx⟩ := vals1 r
  cases rx
  rcases h with ⟨hq, q⟩ | ⟨hq, q⟩
  · obtain ⟨its, r', pl, hz⟩ := I.list hq
    have hlen := r'.length
    refine call_tuple_list pl.isList (fun h' kp => ?_) (by simp only [List.size_toArray] <;> omega)
    have I1 : Inv X pins σ H { s with heap := h' } := I.kept (t' := s.toks) kp
    have I2 : Inv X pins σ (upd H h'.objs.size (.tup ys)) { s with heap := h'.push { cls := .type "tuple", data := .seq its.toArray } } :=
      I1.laid (t' := s.toks) (fun b o e => Heap.get?_push_of_some _ e) (Nat.le_refl _) (show ObjOk X.prog X.w _ _ _ (.tup ys) from ⟨hz, its, r', IsTup.new _ _⟩)
    exact ⟨.ref h'.objs.size, _, I2, rfl, q _ (I1.hok.fresh (Nat.le_refl _))⟩
  · obtain ⟨its, r', pl, hz⟩ := I.tuple hq
    exact call_tuple_same pl ⟨.ref p, H, I, rfl, q⟩

/-! ### the call of a builtin's method: o.m(..) -/
/-- the value is of that builtin type -/
noncomputable def tyV (K : PySem.W.Frag) (T : String) (x : V) (H : Hp) : Prop := match x with
  | .str _ => T = "str"
  | .int _ => T = "int"
  | .ref p => (T = "list" ∧ ∃ xs, SqL K H p xs) ∨ (T = "tuple" ∧ ∃ o, K.lookup p = some o ∧ o.cls = .type "tuple" ∧ o.dict = none) ∨
      (T = "dict" ∧ ((∃ kvs, H p = some (.dK kvs)) ∨ ∃ kvs, H p = some (.dT kvs))) ∨ (T = "set" ∧ ∃ S n, H p = some (.set S n))
  | _ => False
theorem tyV_is {pins : List (Addr × Obj)} {σ : St} {H : Hp} {s : Shared} {T : String} {x : V} {v : Value} (I : Inv X pins σ H s) (r : RelV x v) (ty : tyV X.K T x H) :
    s.TypeIs v T ∧ ∀ a, v = .ref a → ∃ ob, s.heap.get? a = some ob ∧ ob.dict = none := by
  cases x with
  | str z =>
    obtain ⟨t, rfl⟩ := r
    cases (show T = "str" from ty)
    exact ⟨typeIs_str s z t, fun _ e => nomatch e⟩
  | int i =>
    obtain ⟨t, rfl⟩ := r
    cases (show T = "int" from ty)
    exact ⟨typeIs_int s i t, fun _ e => nomatch e⟩
  | ref p =>
    cases r
    rcases ty with ⟨rfl, xs, hq⟩ | ⟨rfl, o, hk, hc, hd⟩ | ⟨rfl, hk⟩ | ⟨rfl, S, n, hk⟩
    · obtain ⟨its, _, pl, _⟩ := I.list hq
      refine ⟨pl.isList.typeIs, fun a e => ?_⟩
      cases e
      obtain ⟨o, n, e, c, hd, _⟩ := pl
      exact ⟨o, e, hd⟩
    · refine ⟨⟨o, I.kIn p o hk, hc⟩, fun a e => ?_⟩
      cases e
      exact ⟨o, I.kIn _ o hk, hd⟩
    · have z : ∃ o, s.heap.get? p = some o ∧ o.ExactDict := by
        rcases hk with ⟨kvs, hk⟩ | ⟨kvs, hk⟩
        · obtain ⟨_, _, _, _, o, _, _, e, ex, _⟩ := I.hok p _ hk
          exact ⟨o, e, ex⟩
        · obtain ⟨_, _, _, _, o, _, _, e, ex, _⟩ := I.hok p _ hk
          exact ⟨o, e, ex⟩
      obtain ⟨o, e, ex⟩ := z
      refine ⟨⟨o, e, ex.1⟩, fun a e2 => ?_⟩
      cases e2
      exact ⟨o, e, ex.2.1⟩
    · obtain ⟨o, _, _, _, e, ex, _⟩ := I.hok p _ hk
      refine ⟨⟨o, e, ex.1⟩, fun a e2 => ?_⟩
      cases e2
      exact ⟨o, e, ex.2.1⟩
  | _ => exact False.elim ty
noncomputable def tBM0 (K : PySem.W.Frag) (T : String) (r : V → List V → Hp → VK → Prop) (to : TE) : TE := fun σ H Q => to σ H fun x H1 => tyV K T x H1 ∧ r x [] H1 Q
noncomputable def tBM (K : PySem.W.Frag) (T : String) (r : V → List V → Hp → VK → Prop) (to : TE) (t : TA) : TE := fun σ H Q => to σ H fun x H1 => tyV K T x H1 ∧ t σ H1 fun xs H2 => r x xs H2 Q
variable {o e : Expr} {es : List Expr} {to : TE} {t : TA} {name : Str} {apos cpos : Pos} {T id : String} {r : V → List V → Hp → VK → Prop}
theorem pe_bm0 (pa : PlainAttrs T) (slot : Slot T name id) (hty : typeOf (.builtin id) = pure (.type "method_descriptor")) (hm : MtR X id r) (ho : PE X o to)
    (hbase : attributeBase o name X.env (eval o X.env) = eval o X.env := by rfl) (hline : (apos.endLine == cpos.line) = true := by rfl) : PE X (.Call (.Attribute o name apos) [] [] cpos) (tBM0 X.K T r to) := by
  intro pins s σ H Q I h
  refine wpAny_Call_method0_late hbase hline (thn (ho pins s σ H _ I h) fun v s1 ⟨x, H1, I1, r1, ty, q1⟩ => ?_)
  obtain ⟨h1, h2⟩ := tyV_is I1 r1 ty
  exact ⟨T, id, pa, slot, hty, h1, h2, Calls.callWith_builtin rfl (PySem.evalArgs_none (hm pins s1 σ H1 x [] v [] Q I1 r1 .nil q1))⟩
theorem pe_bm (pa : PlainAttrs T) (slot : Slot T name id) (hty : typeOf (.builtin id) = pure (.type "method_descriptor")) (hm : MtR X id r) (ho : PE X o to) (ha : PA X (e :: es) t)
    (hbase : attributeBase o name X.env (eval o X.env) = eval o X.env := by rfl)
    (hfew : ((backTo cpos (starEach (e :: es) X.env)).all (fun x => !x.1) && (backToKw cpos (keywordEach [] X.env)).all (fun x => x.1.isSome)
      && decide ((e :: es).length + ([] : List Keyword).length + (if ([] : List Keyword).isEmpty then 0 else 1) < 30)) = true := by rfl)
    (hline : (apos.endLine == cpos.line) = true := by rfl) (hs : starEach (e :: es) X.env = (false, eval e X.env) :: starEach es X.env := by rfl) (hplain : (backTo cpos (starEach es X.env)).any (·.1) = false := by rfl) :
    PE X (.Call (.Attribute o name apos) (e :: es) [] cpos) (tBM X.K T r to t) := by
  intro pins s σ H Q I h
  refine wpAny_Call_method_late hbase hfew hline rfl (thn (ho pins s σ H _ I h) fun v s1 ⟨x, H1, I1, r1, ty, q1⟩ => ?_)
  obtain ⟨h1, h2⟩ := tyV_is I1 r1 ty
  refine ⟨T, id, pa, slot, hty, h1, h2, ?_⟩
  have hA := ha cpos pins s1 σ H1 _ I1 q1
  rw [hs] at hA ⊢
  refine Calls.callWith_builtin (by show (false || (backTo cpos (starEach es X.env)).any (·.1)) = false; rw [hplain] <;> rfl) (Calls.evalArgs_plain ?_)
  exact thn hA fun us s2 ⟨vs, H2, I2, r2, q2⟩ => hm pins s2 σ H2 x vs v us Q I2 r1 r2 q2
/- xs.append(e), list.index on a module's tuple .. are MtR facts of 06m -/
end
end L2

namespace L2
open PySem PySem.Spec PyProof.Rows

noncomputable def MtM (X : Cx) (id : String) (r : V → List V → Hp → VK → Prop) : Prop :=
  ∀ (pins : List (Addr × Obj)) (s : Shared) (σ : St) (H : Hp) (x : V) (xs : List V) (v : Value) (us : List Value) (Q : VK), Inv X pins σ H s → RelV x v → Vals xs us → r x xs H Q →
    wpAny (model X.prog X.w) X.A (call (.builtin id) (v :: us)) (EP X pins σ Q) X.xe s

/-! ### lists of values -/
theorem Vals.one : ∀ {x : V} {us : List Value}, Vals [x] us → ∃ u, us = [u] ∧ RelV x u
  | _, _, .cons r .nil => ⟨_, rfl, r⟩
theorem Vals.two : ∀ {x y : V} {us : List Value}, Vals [x, y] us → ∃ u v, us = [u, v] ∧ RelV x u ∧ RelV y v
  | _, _, _, .cons r (.cons q .nil) => ⟨_, _, rfl, r, q⟩
theorem Vals.zero : ∀ {us : List Value}, Vals [] us → us = []
  | _, .nil => rfl
theorem Vals.dropLast {xs : List V} {us : List Value} (h : Vals xs us) : Vals xs.dropLast us.dropLast := by
  induction h with
  | nil => exact .nil
  | cons r t ih =>
    cases t with
    | nil => exact .nil
    | cons q t' => exact .cons r ih
theorem Vals.eraseIdx : ∀ {xs : List V} {us : List Value} (i : Nat), Vals xs us → Vals (xs.eraseIdx i) (us.eraseIdx i)
  | _, _, _, .nil => .nil
  | _, _, 0, .cons _ t => t
  | _, _, i + 1, .cons r t => .cons r (Vals.eraseIdx i t)
theorem erase_last {α : Type} (l : List α) : l.eraseIdx (l.length - 1) = l.dropLast := by
  induction l with
  | nil => rfl
  | cons a r ih =>
    cases r with
    | nil => rfl
    | cons b r =>
      have e : (a :: b :: r).length - 1 = ((b :: r).length - 1) + 1 := by
        have h1 : (a :: b :: r).length = r.length + 2 := rfl
        have h2 : (b :: r).length = r.length + 1 := rfl
        omega
      rw [e, List.eraseIdx_cons_succ, ih]
      all_goals rfl
theorem len_erase {α : Type} : ∀ (l : List α) (i : Nat), (l.eraseIdx i).length ≤ l.length
  | [], _ => Nat.le_refl _
  | _ :: _, 0 => Nat.le_succ _
  | _ :: r, i + 1 => Nat.succ_le_succ (len_erase r i)

section
variable {X : Cx} {pins : List (Addr × Obj)} {σ : St} {H : Hp} {s : Shared} {l b : Addr} {xs ys zs : List V}

/-! ### the two steps: a tracked list is rewritten, a new list is laid -/
theorem Inv.lset {its its' : List Value} {n : Nat} {f : Array Value → Array Value} {t' : Nat} (I : Inv X pins σ H s) (hH : H l = some (.lst xs))
    (e : s.heap.get? l = some { cls := .type "list", data := .seq its.toArray n }) (hf : f its.toArray = its'.toArray) (hv : Vals ys its') (hz : ys.length ≤ sizeLine) :
    Inv X pins σ (upd H l (.lst ys)) { s with heap := s.heap.update l (Obj.mapSeq f), toks := t' } := by
  have q := PySem.IsL.update e f
  rw [hf] at q
  refine I.write (x := l) (e := l) (by rw [hH]; exact trivial) (.inl rfl) (fun b' u hb hu => (Heap.get?_update_other s.heap (Obj.mapSeq f) (Ne.symm hb)).trans hu) ⟨_, q⟩ ?_
  exact ⟨hz, its', _, hv, q⟩
theorem Inv.lnew {its : List Value} {t' : Nat} (I : Inv X pins σ H s) (hv : Vals ys its) (hz : ys.length ≤ sizeLine) :
    Inv X pins σ (upd H s.heap.objs.size (.lst ys)) { s with heap := s.heap.push { cls := .type "list", data := .seq its.toArray }, toks := t' } :=
  I.laid (fun _ _ q => Heap.get?_push_of_some _ q) (Nat.le_refl _) ⟨hz, its, 0, hv, Heap.get?_push_size _ rfl⟩
theorem Inv.fresh (I : Inv X pins σ H s) : H s.heap.objs.size = none := I.hok.fresh (Nat.le_refl _)
theorem Inv.lstM (I : Inv X pins σ H s) (hH : H l = some (.lst xs)) : xs.length ≤ sizeLine ∧ ∃ (its : List Value) (n : Nat), Vals xs its ∧ xs.length = its.length ∧ s.heap.get? l = some { cls := .type "list", data := .seq its.toArray n } := by
  obtain ⟨z, its, n, r, e⟩ := I.hok l _ hH
  exact ⟨z, its, n, r, r.length, e⟩

theorem notLongL {n : Nat} (h : n ≤ sizeLine) : Builtin.List.listTooLong n = false := by
  unfold Builtin.List.listTooLong
  exact decide_eq_false (by omega)
end

section
variable {X : Cx}

/-! ### methods -/
noncomputable def rAppend : V → List V → Hp → VK → Prop := fun x vs H Q => ∃ l xs y, x = .ref l ∧ vs = [y] ∧ H l = some (.lst xs) ∧ xs.length < sizeLine ∧ Q .non (upd H l (.lst (xs ++ [y])))
theorem mt_append : MtM X "list.append" rAppend := by
  intro pins s σ H x vs v us Q I rx rv h
  obtain ⟨l, xs, y, rfl, rfl, hH, hz, q⟩ := h
  cases rx
  obtain ⟨u, rfl, ru⟩ := rv.one
  obtain ⟨z, its, n, r, hl, e⟩ := I.lstM hH
  refine call_meets F.slot_list_append ⟨_, e, rfl⟩ F.entry_list_append (F.args_list_append_2 _ _) (PySem.list_append l its.toArray n u (by rw [List.size_toArray]; omega)) ⟨e, ?_⟩
  refine ⟨.non, _, I.lset (its' := its ++ [u]) hH e (by simp) (r.append (.cons ru .nil)) ?_, rfl, q⟩
  rw [List.length_append, List.length_singleton]
  omega

noncomputable def rExtend : V → List V → Hp → VK → Prop := fun x vs H Q => ∃ l b xs zs, x = .ref l ∧ vs = [.ref b] ∧ H l = some (.lst xs) ∧ H b = some (.lst zs) ∧ xs.length + zs.length ≤ sizeLine ∧ Q .non (upd H l (.lst (xs ++ zs)))
theorem mt_extend : MtM X "list.extend" rExtend := by
  intro pins s σ H x vs v us Q I rx rv h
  obtain ⟨l, b, xs, zs, rfl, rfl, hH, hB, hz, q⟩ := h
  cases rx
  obtain ⟨u, rfl, ru⟩ := rv.one
  cases ru
  obtain ⟨z, its, n, r, hl, e⟩ := I.lstM hH
  obtain ⟨z2, its2, n2, r2, hl2, e2⟩ := I.lstM hB
  have hsz : its.toArray.size + its2.toArray.size ≤ sizeLine := by rw [List.size_toArray, List.size_toArray]; omega
  have hlong : ¬ (!its.toArray.isEmpty && Builtin.List.listTooLong (its.toArray.size + its2.toArray.size)) = true := by
    rw [notLongL hsz, Bool.and_false]
    exact Bool.false_ne_true
  refine call_meets F.slot_list_extend ⟨_, e, rfl⟩ F.entry_list_extend (F.args_list_extend_2 _ _)
    (AutoSeq1.list_extend_list_list_0 l its.toArray n b its2.toArray n2 hlong (by rw [List.size_toArray]; omega) (by omega)) ⟨e, e2, ?_⟩
  refine ⟨.non, _, I.lset (its' := its ++ its2) hH e (by simp) (r.append r2) ?_, rfl, q⟩
  rw [List.length_append]
  omega

noncomputable def rPop : V → List V → Hp → VK → Prop := fun x vs H Q => ∃ l xs y, x = .ref l ∧ vs = [] ∧ H l = some (.lst xs) ∧ xs[xs.length - 1]? = some y ∧ Q y (upd H l (.lst xs.dropLast))
theorem mt_pop : MtM X "list.pop" rPop := by
  intro pins s σ H x vs v us Q I rx rv h
  obtain ⟨l, xs, y, rfl, rfl, hH, hy, q⟩ := h
  cases rx
  have hus := rv.zero
  subst hus
  obtain ⟨z, its, n, r, hl, e⟩ := I.lstM hH
  obtain ⟨u, hu, ru⟩ := r.get hy
  have hy' : its.toArray[its.toArray.size - 1]? = some u := by
    show its.toArray[its.length - 1]? = some u
    rw [← Array.getElem?_toList, ← hl]
    exact hu
  refine call_meets F.slot_list_pop ⟨_, e, rfl⟩ F.entry_list_pop (F.args_list_pop_1 _) (MeetsSeq.list_pop_last l its.toArray n u hy' (by rw [List.size_toArray]; omega)) ⟨e, ?_⟩
  refine ⟨y, _, I.lset (its' := its.dropLast) hH e ?_ r.dropLast ?_, ru, q⟩
  · show its.toArray.eraseIdxIfInBounds (its.toArray.size - 1) = its.dropLast.toArray
    rw [List.size_toArray, List.eraseIdxIfInBounds_toArray, erase_last]
  · rw [List.length_dropLast]
    omega

noncomputable def rPopAt : V → List V → Hp → VK → Prop := fun x vs H Q => ∃ l xs i k y, x = .ref l ∧ vs = [.int i] ∧ H l = some (.lst xs) ∧ -(2 ^ 63) ≤ i ∧ i < 2 ^ 63 ∧ seqIndex? i xs.length = some k ∧ xs[k]? = some y ∧ Q y (upd H l (.lst (xs.eraseIdx k)))
theorem mt_popAt : MtM X "list.pop" rPopAt := by
  intro pins s σ H x vs v us Q I rx rv h
  obtain ⟨l, xs, i, k, y, rfl, rfl, hH, h1, h2, hk, hy, q⟩ := h
  cases rx
  obtain ⟨u, rfl, ru⟩ := rv.one
  obtain ⟨t, rfl⟩ := ru
  obtain ⟨z, its, n, r, hl, e⟩ := I.lstM hH
  obtain ⟨w, hw, rw'⟩ := r.get hy
  refine call_meets F.slot_list_pop ⟨_, e, rfl⟩ F.entry_list_pop (F.args_list_pop_2 _ _)
    (MeetsSeq.list_pop_at l its.toArray n i t k w (fitsIndex_both h1 h2) (by rw [List.size_toArray, ← hl]; exact hk) (by rw [← Array.getElem?_toList]; exact hw) (by rw [List.size_toArray]; omega)) ⟨e, ?_⟩
  refine ⟨y, _, I.lset (its' := its.eraseIdx k) hH e ?_ (r.eraseIdx k) ?_, rw', q⟩
  · show its.toArray.eraseIdxIfInBounds k = (its.eraseIdx k).toArray
    rw [List.eraseIdxIfInBounds_toArray]
  · have := len_erase xs k
    omega



/-! ### list + list, list += list, list * int -/
noncomputable def rCat : R2 := fun x y H Q => ∃ l b xs zs, x = .ref l ∧ y = .ref b ∧ H l = some (.lst xs) ∧ H b = some (.lst zs) ∧ xs.length + zs.length ≤ sizeLine ∧ ∀ p, H p = none → Q (.ref p) (upd H p (.lst (xs ++ zs)))
theorem op_cat : OpR X (binaryOp .Add) rCat := by
  intro pins s σ H x y v u Q I rx ry h
  obtain ⟨l, b, xs, zs, rfl, rfl, hH, hB, hz, q⟩ := h
  cases rx
  cases ry
  obtain ⟨z, its, n, r, hl, e⟩ := I.lstM hH
  obtain ⟨z2, its2, n2, r2, hl2, e2⟩ := I.lstM hB
  refine PySem.P.add_list e e2 ?_ (by rw [List.size_toArray, List.size_toArray]; omega)
  have ea : its.toArray ++ its2.toArray = (its ++ its2).toArray := by simp
  rw [ea]
  exact ⟨.ref _, _, I.lnew (t' := s.toks) (r.append r2) (by rw [List.length_append]; omega), rfl, q _ I.fresh⟩

/-! ### del xs[i] -/
end

/-! ### xs[a:b] = ys -/
section
variable {prog : Program} {w : World} {A : Around} {E : Value → Shared → Prop} {s : Shared}
end

section
variable {X : Cx}
end
end L2

namespace L2
open PySem PySem.Spec PyProof.Rows

/-! ### lists of pairs as tables -/
section
variable {κ : Type} [DecidableEq κ]
noncomputable def valV (kvs : List (κ × V)) (k : κ) : Option V := (kvs.find? fun kv => decide (kv.1 = k)).map (·.2)
/-- in its place, or at the end -/
noncomputable def putK (kvs : List (κ × V)) (k : κ) (v : V) : List (κ × V) :=
  if (kvs.any fun kv => decide (kv.1 = k)) = true then kvs.map (fun kv => if kv.1 = k then (kv.1, v) else kv) else kvs ++ [(k, v)]

theorem valV_pos {p : κ × V} {r : List (κ × V)} {k : κ} (e : p.1 = k) : valV (p :: r) k = some p.2 := by simp [valV, List.find?_cons, e]
theorem valV_neg {p : κ × V} {r : List (κ × V)} {k : κ} (e : ¬ p.1 = k) : valV (p :: r) k = valV r k := by simp [valV, List.find?_cons, e]
theorem valV_any (k : κ) : ∀ kvs : List (κ × V), (kvs.any fun kv => decide (kv.1 = k)) = (valV kvs k).isSome
  | [] => rfl
  | p :: r => by
    rw [List.any_cons]
    by_cases e : p.1 = k
    · simp only [valV_pos e, decide_eq_true e, Bool.true_or, Option.isSome_some]
    · rw [valV_neg e, decide_eq_false e, Bool.false_or]; exact valV_any k r
theorem valV_map (k j : κ) (y : V) : ∀ kvs : List (κ × V), valV (kvs.map fun kv => if kv.1 = k then (kv.1, y) else kv) j = (valV kvs j).map fun x => if j = k then y else x
  | [] => rfl
  | p :: r => by
    have ih := valV_map k j y r
    rw [List.map_cons]
    by_cases h : p.1 = k
    · rw [if_pos h]
      by_cases e : p.1 = j
      · rw [valV_pos (p := (p.1, y)) e, valV_pos e, Option.map_some, if_pos (e.symm.trans h)]
      · rw [valV_neg (p := (p.1, y)) e, valV_neg e, ih]
    · rw [if_neg h]
      by_cases e : p.1 = j
      · rw [valV_pos (p := p) e, valV_pos e, Option.map_some, if_neg (fun z => h (e.trans z))]
      · rw [valV_neg (p := p) e, valV_neg e, ih]
theorem valV_snoc (k j : κ) (y : V) : ∀ kvs : List (κ × V), valV kvs k = none → valV (kvs ++ [(k, y)]) j = if j = k then some y else valV kvs j
  | [], _ => by
    by_cases e : k = j
    · rw [if_pos e.symm]; exact valV_pos (p := (k, y)) e
    · rw [if_neg (fun z => e z.symm)]; exact valV_neg (p := (k, y)) e
  | p :: r, hn => by
    rw [List.cons_append]
    have hk : ¬ p.1 = k := fun z => by rw [valV_pos z] at hn; cases hn
    rw [valV_neg hk] at hn
    have ih := valV_snoc k j y r hn
    by_cases e : p.1 = j
    · rw [valV_pos e, valV_pos e, if_neg (fun z => hk (e.trans z))]
    · rw [valV_neg e, valV_neg e, ih]
theorem valV_put (kvs : List (κ × V)) (k j : κ) (y : V) : valV (putK kvs k y) j = if j = k then some y else valV kvs j := by
  unfold putK
  by_cases a : (kvs.any fun kv => decide (kv.1 = k)) = true
  · rw [if_pos a, valV_map]
    rw [valV_any] at a
    by_cases e : j = k
    · obtain ⟨x, hx⟩ := Option.isSome_iff_exists.mp a
      rw [if_pos e, e, hx, Option.map_some, if_pos rfl]
    · rw [if_neg e]
      cases valV kvs j with
      | none => rfl
      | some x => rw [Option.map_some, if_neg e]
  · rw [if_neg a]
    refine valV_snoc k j y kvs ?_
    rw [valV_any] at a
    cases q : valV kvs k with
    | none => rfl
    | some x => rw [q] at a; exact (a rfl).elim
theorem length_putK (kvs : List (κ × V)) (k : κ) (v : V) : (putK kvs k v).length ≤ kvs.length + 1 := by
  unfold putK
  split
  · rw [List.length_map]; omega
  · rw [List.length_append, List.length_cons, List.length_nil]; omega

theorem RelO.isSome_eq {o : Option V} {u : Option Value} (r : RelO o u) : o.isSome = u.isSome := by
  cases o with
  | none => cases u with
    | none => rfl
    | some _ => exact (show False from r).elim
  | some _ => cases u with
    | none => exact (show False from r).elim
    | some _ => rfl

/-- raw tables of the same keys -/
theorem KV.val {kvs : List (κ × V)} {vs : List (κ × Value)} (r : KV kvs vs) (k : κ) : RelO (valV kvs k) (valueAt vs k) := by
  unfold KV at r
  induction r with
  | nil => exact True.intro
  | @cons p q ps qs h t ih =>
    obtain ⟨h1, h2⟩ := h
    by_cases e : p.1 = k
    · have e' : q.1 = k := h1.symm.trans e
      have b : valueAt (q :: qs) k = some q.2 := by simp [valueAt, List.find?_cons, e']
      rw [valV_pos e, b]; exact h2
    · have e' : ¬ q.1 = k := fun z => e (h1.trans z)
      have b : valueAt (q :: qs) k = valueAt qs k := by simp [valueAt, List.find?_cons, e']
      rw [valV_neg e, b]; exact ih
theorem KV.any {kvs : List (κ × V)} {vs : List (κ × Value)} (r : KV kvs vs) (k : κ) : (kvs.any fun kv => decide (kv.1 = k)) = vs.any fun kv => decide (kv.1 = k) := by
  unfold KV at r
  induction r with
  | nil => rfl
  | cons h t ih => rw [List.any_cons, List.any_cons, ih, h.1]
theorem KV.repl {kvs : List (κ × V)} {vs : List (κ × Value)} (r : KV kvs vs) (k : κ) {y : V} {u : Value} (ry : RelV y u) :
    KV (kvs.map fun kv => if kv.1 = k then (kv.1, y) else kv) (vs.map fun kv => if kv.1 = k then (kv.1, u) else kv) := by
  unfold KV at r ⊢
  induction r with
  | nil => exact .nil
  | @cons p q ps qs h t ih =>
    rw [List.map_cons, List.map_cons]
    refine .cons ?_ ih
    obtain ⟨h1, h2⟩ := h
    by_cases e : p.1 = k
    · rw [if_pos e, if_pos (h1.symm.trans e)]; exact ⟨h1, ry⟩
    · rw [if_neg e, if_neg (fun z => e (h1.trans z))]; exact ⟨h1, h2⟩
theorem KV.put {kvs : List (κ × V)} {vs : List (κ × Value)} (r : KV kvs vs) (k : κ) {y : V} {u : Value} (ry : RelV y u) : KV (putK kvs k y) (stored vs k u) := by
  unfold putK stored
  rw [r.any k]
  by_cases e : (vs.any fun kv => decide (kv.1 = k)) = true
  · rw [if_pos e, if_pos e]; exact r.repl k ry
  · rw [if_neg e, if_neg e]; exact Paired.snoc r ⟨rfl, ry⟩
theorem KV.length {kvs : List (κ × V)} {vs : List (κ × Value)} (r : KV kvs vs) : kvs.length = vs.length := Paired.length r
end


/-! ### a tracked dict, its keys ints and texts or tuples of these -/
theorem kV_is {P : Program} {w : World} {k : Key} {u : Value} (r : RelV (kV k) u) : (mixKind P w).is k u = true := by
  cases k with
  | inl i => obtain ⟨t, e⟩ := (show ∃ t, u = Value.int i t from r); subst e; exact mixKind_int P w i t
  | inr x => obtain ⟨t, e⟩ := (show ∃ t, u = Value.str x t from r); subst e; exact mixKind_str P w x t
theorem items_are {P : Program} {w : World} : ∀ {ks : List Key} {us : List Value}, Vals (ks.map kV) us → ItemsAre (mixKind P w) ks us
  | [], _, r => by rw [List.map_nil] at r; cases r; exact .nil
  | k :: ks, _, r => by
    rw [List.map_cons] at r
    cases r with
    | cons h t => exact .cons (kV_is h) (items_are t)

/-- raw entries of a dict with tuple keys -/
noncomputable abbrev KT (H : Hp) : List (List Key × V) → List (List Key × Addr × Value) → Prop := Paired fun p q => p.1 = q.1 ∧ H q.2.1 = some (.tup (p.1.map kV)) ∧ RelV p.2 q.2.2
theorem KT.val {H : Hp} {kvs : List (List Key × V)} {xs : List (List Key × Addr × Value)} (r : KT H kvs xs) (k : List Key) : RelO (valV kvs k) ((atKey xs k).map (·.2)) := by
  induction r with
  | nil => exact True.intro
  | @cons p q ps qs h t ih =>
    obtain ⟨h1, _, h2⟩ := h
    by_cases e : p.1 = k
    · have e' : q.1 = k := h1.symm.trans e
      have b : atKey (q :: qs) k = some q.2 := by simp [atKey, List.find?_cons, e']
      rw [valV_pos e, b]; exact h2
    · have e' : ¬ q.1 = k := fun z => e (h1.trans z)
      have b : atKey (q :: qs) k = atKey qs k := by simp [atKey, List.find?_cons, e']
      rw [valV_neg e, b]; exact ih
theorem KT.repl {H : Hp} {kvs : List (List Key × V)} {xs : List (List Key × Addr × Value)} (r : KT H kvs xs) (k : List Key) {y : V} {u : Value} (ry : RelV y u) :
    KT H (kvs.map fun kv => if kv.1 = k then (kv.1, y) else kv) (xs.map (putAt k u)) := by
  induction r with
  | nil => exact .nil
  | @cons p q ps qs h t ih =>
    rw [List.map_cons, List.map_cons]
    refine .cons ?_ ih
    obtain ⟨h1, h2, h3⟩ := h
    unfold putAt
    by_cases e : p.1 = k
    · rw [if_pos e, if_pos (h1.symm.trans e)]; exact ⟨h1, h2, ry⟩
    · rw [if_neg e, if_neg (fun z => e (h1.trans z))]; exact ⟨h1, h2, h3⟩
theorem KT.put {H : Hp} {kvs : List (List Key × V)} {xs : List (List Key × Addr × Value)} (r : KT H kvs xs) (k : List Key) {b : Addr} {y : V} {u : Value} (hb : H b = some (.tup (k.map kV))) (ry : RelV y u) :
    KT H (putK kvs k y) (storedH xs k b u) := by
  have e : (kvs.any fun kv => decide (kv.1 = k)) = (atKey xs k).isSome := by
    rw [valV_any, (r.val k).isSome_eq, Option.isSome_map]
  unfold putK storedH
  rw [e]
  by_cases q : (atKey xs k).isSome = true
  · rw [if_pos q, if_pos q]; exact r.repl k ry
  · rw [if_neg q, if_neg q]; exact Paired.snoc r ⟨rfl, hb, ry⟩
theorem KT.keeps {H H' : Hp} {kvs : List (List Key × V)} {xs : List (List Key × Addr × Value)} (r : KT H kvs xs) (ht : ∀ b ys, H b = some (.tup ys) → H' b = some (.tup ys)) : KT H' kvs xs :=
  Paired.mapP r fun _ _ z => ⟨z.1, ht _ _ z.2.1, z.2.2⟩

section
variable {P : Program} {w : World} {H : Hp} {h : Heap} {a : Addr}
theorem rd_of {u : HO} (ok : HOk P w H h) (e : Rd H a u) : ObjOk P w H h a u := e.ok ok
theorem dk_rd {kvs : List (Key × V)} (ok : HOk P w H h) (e : Rd H a (.dK kvs)) : kvs.length ≤ sizeLine ∧ (a == sysModules) = false ∧ ∃ vs, KV kvs vs ∧ h.DictOf (mixKind P w) a vs :=
  show ObjOk P w H h a (.dK kvs) from rd_of ok e
theorem dk_of {kvs : List (Key × V)} (ok : HOk P w H h) (e : H a = some (.dK kvs)) : kvs.length ≤ sizeLine ∧ (a == sysModules) = false ∧ ∃ vs, KV kvs vs ∧ h.DictOf (mixKind P w) a vs := dk_rd ok (.inl e)
/-- a tracked tuple of ints and texts is a key -/
theorem key_of {ks : List Key} (ok : HOk P w H h) (e : H a = some (.tup (ks.map kV))) : (tupleKind (mixKind P w)).is h ks a := by
  obtain ⟨_, its, r, o, h1, h2, n, h3⟩ := (show ObjOk P w H h a (.tup (ks.map kV)) from ok a _ e)
  exact ⟨o, its.toArray, n, h1, h2, h3, by simpa using items_are r⟩
theorem dt_rd {kvs : List (List Key × V)} (ok : HOk P w H h) (e : Rd H a (.dT kvs)) : kvs.length ≤ sizeLine ∧ (a == sysModules) = false ∧
    ∃ xs, KT H kvs xs ∧ h.DictOfH (tupleKind (mixKind P w)) a xs := by
  obtain ⟨z, y, xs, r, o, es, ep, h1, h2, h3, h4, h5⟩ := (show ObjOk P w H h a (.dT kvs) from rd_of ok e)
  refine ⟨z, y, xs, r, o, es, ep, h1, h2, h3, h4, fun x hx => ?_, h5⟩
  have all : ∀ {l : List (List Key × V)} {m : List (List Key × Addr × Value)}, KT H l m → ∀ x ∈ m, (tupleKind (mixKind P w)).is h x.1 x.2.1 := by
    intro l m q
    induction q with
    | nil => intro x hx; exact nomatch hx
    | @cons p q ps qs hq t ih =>
      intro x hx
      rcases List.mem_cons.mp hx with e | hx
      · subst e
        exact key_of ok (by rw [← hq.1]; exact hq.2.1)
      · exact ih x hx
  exact all r x hx
theorem dt_of {kvs : List (List Key × V)} (ok : HOk P w H h) (e : H a = some (.dT kvs)) : kvs.length ≤ sizeLine ∧ (a == sysModules) = false ∧
    ∃ xs, KT H kvs xs ∧ h.DictOfH (tupleKind (mixKind P w)) a xs := dt_rd ok (.inl e)
end

/-- what the dict at a holds at the key y -/
noncomputable def DGet (H : Hp) (a : Addr) (y : V) (r : Option V) : Prop :=
  (∃ kvs k, Rd H a (.dK kvs) ∧ y = kV k ∧ r = valV kvs k) ∨ ∃ kvs k b, Rd H a (.dT kvs) ∧ y = .ref b ∧ H b = some (.tup (k.map kV)) ∧ r = valV kvs k
/-- the heap behind a[y] = v -/
noncomputable def DPut (H : Hp) (a : Addr) (y v : V) (H' : Hp) : Prop :=
  (∃ kvs k, H a = some (.dK kvs) ∧ y = kV k ∧ kvs.length < sizeLine ∧ H' = upd H a (.dK (putK kvs k v))) ∨
  ∃ kvs k b, H a = some (.dT kvs) ∧ y = .ref b ∧ H b = some (.tup (k.map kV)) ∧ kvs.length < sizeLine ∧ H' = upd H a (.dT (putK kvs k v))
theorem DGet.k {H : Hp} {a : Addr} {kvs : List (Key × V)} {k : Key} (e : H a = some (.dK kvs)) : DGet H a (kV k) (valV kvs k) := .inl ⟨kvs, k, .inl e, rfl, rfl⟩
theorem DPut.k {H : Hp} {a : Addr} {kvs : List (Key × V)} {k : Key} {v : V} (e : H a = some (.dK kvs)) (hl : kvs.length < sizeLine) : DPut H a (kV k) v (upd H a (.dK (putK kvs k v))) := .inl ⟨kvs, k, e, rfl, hl, rfl⟩


section
variable {X : Cx} {pins : List (Addr × Obj)} {σ : St} {H : Hp} {s : Shared} {a : Addr} {y v : V} {u r : Value} {o : Option V} {A : Around} {E : Value → Shared → Prop}

theorem Inv.big (I : Inv X pins σ H s) : sysModules < s.heap.objs.size := by
  have h : mainGlobals < s.heap.objs.size := (I.mod.glob.keeps I.bk).lt
  exact Nat.lt_trans (by decide) h

/-- d[y], there -/
theorem d_getItem {Q : Value → Shared → Prop} (hu : A.units + 1 < cLine) (I : Inv X pins σ H s) (g : DGet H a y (some v)) (ry : RelV y u) (h : ∀ w' s', Inv X pins σ H s' → RelV v w' → Q w' s') :
    wpAny (model X.prog X.w) A (getItem (.ref a) u) Q E s := by
  rcases g with ⟨kvs, k, e, ey, l⟩ | ⟨kvs, k, b, e, ey, eb, l⟩
  · subst ey
    obtain ⟨z, hd, vs, rel, dd⟩ := dk_rd I.hok e
    obtain ⟨w', hw, rw'⟩ := RelO.some_of (v := v) (o := valueAt vs k) (by rw [l]; exact rel.val k)
    exact wpAny_getItem_of (kV_is ry) dd.mapOf hw (h w' _ (I.tok _) rw')
  · subst ey
    cases (show u = Value.ref b from ry)
    obtain ⟨z, hd, xs, rel, dd⟩ := dt_rd I.hok e
    obtain ⟨w', hw, rw'⟩ := RelO.some_of (v := v) (o := (atKey xs k).map (·.2)) (by rw [l]; exact rel.val k)
    obtain ⟨p, hp, hp2⟩ := Option.map_eq_some_iff.mp hw
    refine wpAny_getItem_heap (tupleKind_room_in1 hu) (key_of I.hok eb) dd hp ?_
    rw [hp2]
    exact h w' _ (I.tok _) rw'
/-- y in d -/
theorem d_in {Q : Value → Shared → Prop} (hu : A.units + 1 < cLine) (I : Inv X pins σ H s) (g : DGet H a y o) (ry : RelV y u) (h : ∀ s', Inv X pins σ H s' → Q (.bool o.isSome) s') :
    wpAny (model X.prog X.w) A (compareOp .In u (.ref a)) Q E s := by
  rcases g with ⟨kvs, k, e, ey, l⟩ | ⟨kvs, k, b, e, ey, eb, l⟩
  · subst ey
    obtain ⟨z, hd, vs, rel, dd⟩ := dk_rd I.hok e
    refine wpAny_in_of (kV_is ry) hd dd.mapOf ?_
    rw [← (rel.val k).isSome_eq, ← l]
    exact h _ (I.tok _)
  · subst ey
    cases (show u = Value.ref b from ry)
    obtain ⟨z, hd, xs, rel, dd⟩ := dt_rd I.hok e
    refine wpAny_in_heap (tupleKind_room_in1 hu) (key_of I.hok eb) hd dd ?_
    have q := (rel.val k).isSome_eq
    rw [Option.isSome_map] at q
    rw [← q, ← l]
    exact h _ (I.tok _)
/-- a dict's object is replaced -/
theorem d_write {h' : Heap} {t' : Nat} {ob : HO} (I : Inv X pins σ H s) (mu : Mut (H a)) (hs : Heap.SameBut a s.heap h') (he : ∃ q, h'.get? a = some q) (new : ObjOk X.prog X.w (upd H a ob) h' a ob) :
    Inv X pins σ (upd H a ob) { s with heap := h', toks := t' } :=
  I.write (x := a) (e := a) mu (.inl rfl) (fun b q hb z => (hs.2 b hb).trans z) he new
theorem dk_new {P : Program} {w : World} {H' : Hp} {h' : Heap} {kvs : List (Key × V)} {vs : List (Key × Value)} (z : kvs.length ≤ sizeLine) (hd : (a == sysModules) = false) (rel : KV kvs vs) (dd : h'.DictOf (mixKind P w) a vs) :
    ObjOk P w H' h' a (.dK kvs) := ⟨z, hd, vs, rel, dd⟩
/-- d[y] = v -/
theorem d_setItem {H' : Hp} {Q : Unit → Shared → Prop} (hu : A.units + 1 < cLine) (I : Inv X pins σ H s) (g : DPut H a y v H') (ry : RelV y u) (rv : RelV v r) (h : ∀ s', Inv X pins σ H' s' → Q () s') :
    wpAny (model X.prog X.w) A (setItem (.ref a) u r) Q E s := by
  rcases g with ⟨kvs, k, e, ey, l, eH⟩ | ⟨kvs, k, b, e, ey, eb, l, eH⟩
  · subst ey eH
    obtain ⟨z, hd, vs, rel, dd⟩ := dk_of I.hok e
    have hz : vs.length ≤ sizeLine := by rw [← rel.length]; exact z
    have hl : (putK kvs k v).length ≤ sizeLine := by have := length_putK kvs k v; omega
    refine wpAny_setItem_pairs (hsz := hz) (kV_is ry) dd fun h' dd' hs => h _ ?_
    have he : ∃ q, h'.get? a = some q := let ⟨q, _, _, hq, _⟩ := dd'; ⟨q, hq⟩
    exact d_write I (by rw [e]; exact True.intro) hs he (dk_new hl hd (rel.put k rv) dd')
  · subst ey eH
    cases (show u = Value.ref b from ry)
    obtain ⟨z, hd, xs, rel, dd⟩ := dt_of I.hok e
    have hz : xs.length ≤ sizeLine := by rw [← Paired.length rel]; exact z
    have hl : (putK kvs k v).length ≤ sizeLine := by have := length_putK kvs k v; omega
    refine wpAny_setItem_heap (hsz := hz) (tupleKind_room_in1 hu) (key_of I.hok eb) dd fun h' dd' hs => h _ ?_
    obtain ⟨q, es, ep, hq, h2, h3, h4, _, h5⟩ := dd'
    refine d_write I (by rw [e]; exact True.intro) hs ⟨q, hq⟩ ⟨hl, hd, _, (rel.put k eb rv).keeps fun c ys ec => ?_, q, es, ep, hq, h2, h3, h4, h5⟩
    rw [upd_ne (ne_of ec e (fun z => nomatch z))]
    exact ec
end

section
variable {X : Cx} {pins : List (Addr × Obj)} {σ : St} {H : Hp} {s : Shared} {a : Addr} {kvs : List (Key × V)} {k : Key} {u : Value} {A : Around} {E : Value → Shared → Prop}
end


/-! ### readings and rules -/
/-- the element of a subscription, not a slice -/
noncomputable def NoSl (i : Expr) : Prop := ∀ ov iv, subscripted i false ov iv = operate [ov, iv] (getItem ov iv)
theorem subD_of {prog : Program} {w : World} {A : Around} {E : Value → Shared → Prop} {s : Shared} {env : Env} {value slice : Expr} {pos : Pos} {T id : String} {Q : Value → Shared → Prop}
    (hl : typeLookup (.type T) "__getitem__" = pure (some (.builtin id))) (hs : NoSl slice)
    (h : wpAny (model prog w) A (eval value env) (fun o s₁ => wpAny (model prog w) A (eval slice env) (fun i s₂ => s₂.TypeIs o T ∧ wpAny (model prog w) A (getItem o i) Q E s₂) E s₁) E s) :
    wpAny (model prog w) A (eval (.Subscript value slice pos) env) Q E s := by
  refine Subscript_ (wpAny_mono h (fun o s₁ h₁ => wpAny_mono h₁ (fun i s₂ h₂ => ?_) fun _ _ x => x) fun _ _ x => x)
  obtain ⟨hT, h₂⟩ := h₂
  unfold subscriptTail
  refine wpAny_bind ?_
  rw [getitemInPython_of_ne hT.not_modules]
  refine wpAny_bind (wpAny_specialOf hT hl ?_)
  have fin : wpAny (model prog w) A (subscripted slice false o i) (fun r s₃ => wpAny (model prog w) A (letTemporaryGo value o r >>= fun _ => pure r) Q E s₃) E s₂ := by
    rw [hs o i]
    exact wpAny_operating (wpAny_mono h₂ (fun r s₃ h₃ => wpAny_bind (wpAny_letTemporaryGo (wpAny_pure h₃))) fun _ _ x => x)
  first
    | exact wpAny_pure (wpAny_bind fin)
    | exact wpAny_bind (wpAny_pure (wpAny_bind fin))
    | exact wpAny_bind fin

theorem dict_typeIs {X : Cx} {pins : List (Addr × Obj)} {σ : St} {H : Hp} {s : Shared} {a : Addr} {y : V} {o : Option V} (I : Inv X pins σ H s) (g : DGet H a y o) : s.TypeIs (.ref a) "dict" := by
  rcases g with ⟨kvs, k, e, _, _⟩ | ⟨kvs, k, b, e, _, _, _⟩
  · obtain ⟨_, _, vs, _, dd⟩ := dk_rd I.hok e
    exact dd.typeIs
  · obtain ⟨_, _, xs, _, dd⟩ := dt_rd I.hok e
    exact dd.typeIs

/-- d[y] -/
noncomputable def tDGet (td ty : TE) : TE := fun σ H Q => td σ H fun x H1 => ty σ H1 fun y H2 => ∃ a v, x = .ref a ∧ DGet H2 a y (some v) ∧ Q v H2
/-- y in d, y not in d -/
noncomputable def tDIn (ty td : TE) : TE := fun σ H Q => ty σ H fun y H1 => td σ H1 fun x H2 => ∃ a o, x = .ref a ∧ DGet H2 a y o ∧ Q (.bl o.isSome) H2
/-- d[y] = v -/
noncomputable def sDPut (td ty tv : TE) : TS := fun D σ H => tv σ H fun v H1 => td σ H1 fun x H2 => ty σ H2 fun y H3 => ∃ a H4, x = .ref a ∧ DPut H3 a y v H4 ∧ D.nx σ H4

section
variable {X : Cx} {o i e value : Expr} {pos pos' tpos : Pos} {td ty tv : TE}
theorem pe_dget (hu : X.A.units + 1 < cLine) (ho : PE X o td) (hi : PE X i ty) (hs : NoSl i) : PE X (.Subscript o i pos) (tDGet td ty) := by
  intro pins s σ H Q I h
  refine subD_of PySem.F.slot_dict_getitem.lookup hs (thn (ho pins s σ H _ I h) fun u s1 ⟨x, H1, I1, rx, q1⟩ => thn (hi pins s1 σ H1 _ I1 q1) fun iv s2 ⟨y, H2, I2, ry, a, v, ex, g, q2⟩ => ?_)
  subst ex
  obtain rfl : u = Value.ref a := rx
  exact ⟨dict_typeIs I2 g, d_getItem hu I2 g ry fun w' s3 I3 rw' => ⟨v, H2, I3, rw', q2⟩⟩
theorem pc_din (hu : X.A.units + 1 < cLine) (hi : PE X i ty) (ho : PE X o td) : PC X .In i o (tDIn ty td) := by
  intro pins s σ H Q I h
  refine thn (hi pins s σ H _ I h) fun iv s1 ⟨y, H1, I1, ry, q1⟩ => thn (ho pins s1 σ H1 _ I1 q1) fun u s2 ⟨x, H2, I2, rx, a, ov, ex, g, q2⟩ => ?_
  subst ex
  obtain rfl : u = Value.ref a := rx
  exact d_in hu I2 g ry fun s3 I3 => ⟨.bl ov.isSome, H2, I3, rfl, q2⟩
theorem ps_dput (hu : X.A.units + 1 < cLine) (ho : PE X o td) (hi : PE X i ty) (hv : PE X value tv) (hs : swapsWith value (some (.Subscript o i pos')) pos.line X.env = pure false) :
    PS X (.Assign [.Subscript o i pos'] value pos) (sDPut td ty tv) := by
  intro pins s σ H D I h
  refine wpAny_Assign_Subscript (thn (hv pins s σ H _ I h) fun r s1 ⟨v, H1, I1, rv, q1⟩ => thn (ho pins s1 σ H1 _ I1 q1) fun u s2 ⟨x, H2, I2, rx, q2⟩ => thn (hi pins s2 σ H2 _ I2 q2) fun iv s3 ⟨y, H3, I3, ry, a, H4, ex, g, q3⟩ => ?_) hs
  subst ex
  obtain rfl : u = Value.ref a := rx
  exact d_setItem hu I3 g ry rv fun s4 I4 => ⟨σ, H4, I4, q3⟩
end


/-! ### displays -/
theorem dk_empty {P : Program} {w : World} {H : Hp} (h : Heap) (hb : sysModules < h.objs.size) : ObjOk P w H (h.push { cls := .type "dict", data := .dict #[] }) h.objs.size (.dK []) :=
  ⟨Nat.zero_le _, beq_eq_false_iff_ne.mpr (Ne.symm (Nat.ne_of_lt hb)), [], .nil, Heap.DictOf.new h⟩
/-- {}, to be a dict of the kind that is wanted -/
noncomputable def tDNewK : TE := fun _ H Q => ∀ p, H p = none → Q (.ref p) (upd H p (.dK []))
section
variable {X : Cx} {pos : Pos}
theorem pe_dnewK : PE X (.Dict [] [] pos) tDNewK := fun pins s σ H Q I h =>
  wpAny_Dict_empty ⟨.ref s.heap.objs.size, _, I.laid (a := s.heap.objs.size) (o := .dK []) (t' := s.toks) (fun _ _ q => Heap.get?_push_of_some _ q) (Nat.le_refl _) (dk_empty s.heap I.big), rfl, h _ (I.hok.fresh (Nat.le_refl _))⟩
end

/-- the pairs of a display, from the left -/
noncomputable def tPairs : List (TE × TE) → St → Hp → (List (V × V) → Hp → Prop) → Prop
  | [], _, H, Q => Q [] H
  | (tk, tv) :: r, σ, H, Q => tk σ H fun x H1 => tv σ H1 fun y H2 => tPairs r σ H2 fun ps H3 => Q ((x, y) :: ps) H3
noncomputable abbrev VV : List (V × V) → List (Value × Value) → Prop := Paired fun p q => RelV p.1 q.1 ∧ RelV p.2 q.2
noncomputable def PPs (X : Cx) (pos : Pos) (keys : List (Option Expr)) (values : List Expr) (trs : List (TE × TE)) : Prop :=
  ∀ (pins : List (Addr × Obj)) (s : Shared) (σ : St) (H : Hp) (Q : List (V × V) → Hp → Prop), Inv X pins σ H s → tPairs trs σ H Q →
    wpAny (model X.prog X.w) X.A (evalPairs (pairTrees keys values X.env pos)) (fun vs s' => ∃ ps H', Inv X pins σ H' s' ∧ VV ps vs ∧ Q ps H') X.xe s
theorem pps_nil {X : Cx} {pos : Pos} : PPs X pos [] [] [] := fun pins s σ H Q I h => pairTrees_nil_walk ⟨[], H, I, .nil, h⟩
theorem pps_cons {X : Cx} {pos : Pos} {k v : Expr} {ks : List (Option Expr)} {vs : List Expr} {tk tv : TE} {trs : List (TE × TE)} (hk : PE X k tk) (hv : PE X v tv) (hr : PPs X pos ks vs trs) :
    PPs X pos (some k :: ks) (v :: vs) ((tk, tv) :: trs) := fun pins s σ H Q I h =>
  pairTrees_cons_walk (thn (hk pins s σ H _ I h) fun u s1 ⟨x, H1, I1, rx, q1⟩ => thn (hv pins s1 σ H1 _ I1 q1) fun w2 s2 ⟨y, H2, I2, ry, q2⟩ =>
    thn (hr pins s2 σ H2 _ I2 q2) fun ws s3 ⟨ps, H3, I3, rel, q3⟩ => ⟨(x, y) :: ps, H3, I3, .cons ⟨rx, ry⟩ rel, q3⟩)

noncomputable def mergeK (kvs more : List (Key × V)) : List (Key × V) := more.foldl (fun acc kv => putK acc kv.1 kv.2) kvs
theorem KV.merge : ∀ {more : List (Key × V)} {rs : List (Key × Value)} {kvs : List (Key × V)} {vs : List (Key × Value)}, KV more rs → KV kvs vs → KV (mergeK kvs more) (merged vs rs) := by
  intro more rs kvs vs r
  unfold KV at r
  induction r generalizing kvs vs with
  | nil => intro q; exact q
  | @cons p q ps qs h t ih =>
    intro r0
    have e : KV (putK kvs p.1 p.2) (stored vs q.1 q.2) := by
      have := r0.put p.1 h.2
      rw [← h.1]; exact this
    exact ih e
theorem length_mergeK : ∀ (more kvs : List (Key × V)), (mergeK kvs more).length ≤ kvs.length + more.length
  | [], kvs => by show kvs.length ≤ kvs.length + 0; omega
  | p :: r, kvs => by
    have h1 := length_mergeK r (putK kvs p.1 p.2)
    have h2 := length_putK kvs p.1 p.2
    show (mergeK (putK kvs p.1 p.2) r).length ≤ _
    rw [List.length_cons]; omega
theorem carries_of {P : Program} {w : World} : ∀ {kvs : List (Key × V)} {ws : List (Value × Value)}, VV (kvs.map fun kv => (kV kv.1, kv.2)) ws → ∃ rs, Carries (mixKind P w) ws rs ∧ KV kvs rs
  | [], _, r => by rw [List.map_nil] at r; cases r; exact ⟨[], True.intro, .nil⟩
  | p :: kvs, _, r => by
    rw [List.map_cons] at r
    cases r with
    | @cons a b as bs h t =>
      obtain ⟨rs, c, q⟩ := carries_of (P := P) (w := w) t
      obtain ⟨b1, b2⟩ := b
      exact ⟨(p.1, b2) :: rs, ⟨kV_is h.1, rfl, c⟩, .cons ⟨rfl, h.2⟩ q⟩
/-- {k: v, ..} with keys ints and texts; the new dict stands empty while the pairs are made -/
noncomputable def tDisp (trs : List (TE × TE)) : TE := fun σ H Q => ∀ p, H p = none → tPairs trs σ (upd H p (.dK [])) fun ps H2 => H2 p = some (.dK []) ∧ ∃ kvs : List (Key × V), ps = kvs.map (fun kv => (kV kv.1, kv.2)) ∧ kvs.length ≤ 15 ∧ Q (.ref p) (upd H2 p (.dK (mergeK [] kvs)))
theorem pe_disp {X : Cx} {pos : Pos} {keys : List (Option Expr)} {values : List Expr} {trs : List (TE × TE)} (h : PPs X pos keys values trs) (hall : keys.all (·.isSome) = true) (hl : keys.length = values.length) (h0 : keys ≠ [])
    (h15 : keys.length ≤ 15) : PE X (.Dict keys values pos) (tDisp trs) := by
  intro pins s σ H Q I q
  have hn := I.hok.fresh (Nat.le_refl s.heap.objs.size)
  have I1 := I.laid (a := s.heap.objs.size) (o := .dK []) (h' := s.heap.push { cls := .type "dict", data := .dict #[] }) (t' := s.toks) (fun _ _ q => Heap.get?_push_of_some _ q) (Nat.le_refl _) (dk_empty s.heap I.big)
  refine wpAny_Dict_walk (knd := mixKind X.prog X.w) hall hl h0 h15 (thn (h pins _ σ _ _ I1 (q _ hn)) fun ws s2 ⟨ps, H2, I2, rel, e, kvs, ep, lk, q2⟩ => ?_)
  subst ep
  obtain ⟨rs, c, rk⟩ := carries_of (P := X.prog) (w := X.w) rel
  obtain ⟨z, hd, vs0, r0, dd⟩ := dk_of I2.hok e
  cases r0
  refine ⟨rs, c, dd, fun h' dd' hs => ⟨.ref s.heap.objs.size, _, ?_, rfl, q2⟩⟩
  have hz : (mergeK [] kvs).length ≤ sizeLine := by
    have h1 := length_mergeK kvs []
    rw [List.length_nil] at h1
    rw [sizeLine_eq]; omega
  have he : ∃ q, h'.get? s.heap.objs.size = some q := let ⟨q, _, _, hq, _⟩ := dd'; ⟨q, hq⟩
  exact d_write I2 (by rw [e]; exact True.intro) hs he (dk_new hz hd (rk.merge .nil) dd')


/-! ### methods -/


section
variable {X : Cx} {pins : List (Addr × Obj)} {σ : St} {H : Hp} {s : Shared} {a : Addr} {y d : V} {u r : Value} {o : Option V} {A : Around} {E : Value → Shared → Prop}
end

section
variable {X : Cx} {o e f : Expr} {apos cpos : Pos} {td ty tx : TE}
end

/-! ### dict(d): a copy -/
section
variable {X : Cx} {pins : List (Addr × Obj)} {σ : St} {H : Hp} {s : Shared} {a : Addr} {kvs : List (Key × V)} {A : Around} {E : Value → Shared → Prop}
end


section
variable {X : Cx} {pins : List (Addr × Obj)} {σ : St} {H : Hp} {s : Shared} {a : Addr} {y : V} {u : Value} {A : Around} {E : Value → Shared → Prop}
end
end L2

namespace Att
open PySem PySem.W PySem.Calls PyProof.Rows

/-! ### the script -/
theorem ints_of_wellAll {P : Params} {h : Heap} : ∀ (ns : List Int) (vs : List Value), WellAll P h vs (ns.map WData.int) → IntsAre vs ns := by
  intro ns
  induction ns with
  | nil =>
    intro vs w
    rw [List.map_nil] at w
    cases w
    exact .nil
  | cons n ns ih =>
    intro vs w
    rw [List.map_cons] at w
    cases w with
    | cons a b =>
      cases a
      exact .cons _ _ (ih _ b)

theorem script_of {l : OpenLaw} {n : Nat} (hn : l.most = some n) {P : Params} {h : Heap} {args : List WData} {vals : List Value}
    (hpre : l.row.toRowW.claim.pre args = true) (hwl : WellAll P h vals args) :
    ∃ a vs ns, vals = [Value.ref a] ∧ args = [WData.list (ns.map WData.int)] ∧ h.get? a = some { cls := .type "list", data := .seq vs.toArray } ∧ IntsAre vs ns ∧ ns.length ≤ n := by
  have hsh : WShape.hasAll [] args [.list .int] = true := (pre_splitW hpre).1
  have hc : l.pre.holds [] { args := args } = true := (pre_splitW hpre).2
  obtain ⟨d, r, rfl, h1, h2⟩ := hasAllW_cons hsh
  obtain rfl := hasAllW_nil h2
  obtain ⟨xs, rfl, h3⟩ := hasW_list h1
  obtain ⟨ns, rfl⟩ := items_int h3
  have hlen : ns.length ≤ n := by
    unfold OpenLaw.pre at hc
    have h4 : (WTm.not (.lt (.lit (.int (n : Int))) (.len (.arg 0)))).holds [] { args := [.list (ns.map .int)] } = true := by
      have h4 := (holds_andW hc).1
      rw [hn] at h4
      exact h4
    have h5 := condW_of h4 (w_not (w_lt w_lit (w_len_list (w_arg rfl))))
    rw [List.length_map] at h5
    refine Nat.le_of_not_lt fun q => ?_
    have q' : (n : Int) < ((ns.length : Nat) : Int) := by omega
    first
      | (rw [decide_eq_true q'] at h5; exact absurd h5 (by decide))
      | (simp at h5; omega)
  cases hwl with
  | cons w1 w2 =>
    cases w2
    cases w1 with
    | list ho hall => exact ⟨_, _, ns, rfl, rfl, ho, ints_of_wellAll ns _ hall, hlen⟩

theorem post_true (l : OpenLaw) (args : List WData) : l.row.toRowW.claim.post args (.bool true) args = true :=
  postW_of (r := l.row.toRowW) (X := (true == true))
    (show WShape.has [] (.bool true) .bool = true by first | rfl | decide | simp [WShape.has, WShape.arms, WShape.armsAll])
    (show (WTm.eq .res (.lit (.bool true))).value [] { args := args, res := some (.bool true), after := args } = some (.bool (true == true)) from w_eq_bool (w_res rfl) w_lit) rfl

/-! ### the attachment: holds_open's last premise (the goal 'hc' behind k_head) from a wpAny of the law's body -/

/-- the same from a codeAny of the CALL (for a layer whose function contracts speak of calls) -/
theorem attach_call {l : OpenLaw} {n : Nat} {q : Program} {loose : List Str} {XP : (Str → Option Value) → Heap → Prop} {YP : World → Heap → Prop} {d : DefRec}
    (hn : l.most = some n) (hdf : d.params.defaults = [])
    (call : ∀ (w : World) (s₀ s₁ : Shared) (mg mb : Str → Option Value) (fa : Addr) (o : Obj) (pm cd doc : Value) (a : Addr) (vs : List Value) (ns : List Int),
      Ground q loose [] XP w s₀ mg mb s₁.heap → YP w s₁.heap →
      s₁.heap.get? fa = some o → o.data = .func (docDef d.name d.params d.body d.scope pm cd doc) → s₁.heap.CodeRec cd d.name → mg d.name = some (.ref fa) →
      s₁.heap.get? a = some { cls := .type "list", data := .seq vs.toArray } → IntsAre vs ns → ns.length ≤ n → s₁.gens = #[] →
      codeAny (model l.prog w) callerA (.call (.ref fa) ⟨[.ref a], []⟩) (fun r s' => r = .ok (.ret (.bool true)) ∧ OldK s₁.heap s'.heap ∧ s'.os = s₁.os ∧ AllBare s'.gens) s₁) :
    WalkO q loose XP YP l.row.toRowW d [] (fun f vs => PySem.call f vs) := by
  intro w s₀ s₁ mg mb G Y fa o pm cd doc dV kV ho hd hcd hD hmg hg args vals as hpre hlay hrd hwl hlo
  obtain rfl : dV = .none := Dflts.none hD hdf
  obtain rfl : kV = .none := Dflts.noKw hD
  obtain ⟨a, vs, ns, rfl, rfl, hobj, hints, hlen⟩ := script_of hn hpre hwl
  refine enter_call (codeAny_mono (call w s₀ s₁ mg mb fa o pm cd doc a vs ns G Y ho (fd_plain hd) hcd hmg hobj hints hlen hg) fun r s' hq => ?_)
  obtain ⟨rfl, h2, h3, h4⟩ := hq
  exact ⟨.inl ⟨.bool true, .bool true, [], rfl, fun _ => rfl, .bool true, post_true l _, fun _ => ⟨List.Pairwise.nil, fun _ hm => (nomatch hm)⟩⟩, h2, h3, h4⟩


/-! ### rules over ANY heap (no ledger) from facts about the written part K: the library's own take a ledger (News) for what they write -/
section
variable {prog : Program} {w : World} {A : Around} {E : Value → Shared → Prop} {s : Shared} {K : Frag}





/-! the whole heap as the ledger: makes every rule that writes through a ledger a rule over any heap -/

end
end Att

namespace L2
open PySem PySem.Spec PyProof.Rows

theorem vals_ints : ∀ {vs : List Value} {ns : List Int}, IntsAre vs ns → Vals (ns.map V.int) vs
  | _, _, .nil => .nil
  | _, _, .cons n t h => .cons ⟨t, rfl⟩ (vals_ints h)

/-- nothing is tracked but the script, known to the object (or it is an object of the module) -/
noncomputable def Only (H : Hp) : Prop := ∀ b, H b = none ∨ ∃ o xs, H b = some (.frz o (.lst xs))

/-- THE HEAD: the law's promise, at the heap behind the top. F, the promise of the law's def, may use that base is part of the heap (so K.In base, base.Ns mainGlobals mg stand in Mod) -/
theorem law_call {P : Program} {w : World} {K : PySem.W.Frag} {mg mb : Str → Option Value} {CX : CXT} {k : Nat} {fa a : Addr} {fd : FuncData} {x : Str} {sp : Sp} {s₁ : Shared} {vs : List Value} {ns : List Int}
    (KX : K.In s₁.heap) (hns : s₁.heap.Ns mainGlobals mg) (hb : s₁.heap.Ns builtinsNs mb) (hbb : ∀ x : Str, x ≠ "__name__" → mb x = bootBuiltins x) (hlim : s₁.heap.NoLimit) (hg : s₁.gens = #[])
    (ha : s₁.heap.get? a = some { cls := .type "list", data := .seq vs.toArray }) (hi : IntsAre vs ns) (hl : ns.length ≤ sizeLine) (hr : Room k callerA)
    (F : ∀ base : Heap, K.In base → base.Ns mainGlobals mg → FnOk P w K mg base CX k fa fd [x] sp) (hbind : ∀ (s : Shared) (u : Value), BindsTo s fd ⟨[u], []⟩ [(x, u)])
    (hsp : ∀ H : Hp, Only H → SqL K H a (ns.map V.int) → sp [.ref a] H (fun v _ => v = .bl true) fun _ _ _ => False)
    (hCX : ∀ H e s', CX [] H s₁ (fun _ _ _ => False) e s' → False) :
    codeAny (model P w) callerA (.call (.ref fa) ⟨[.ref a], []⟩) (fun r s' => r = .ok (.ret (.bool true)) ∧ OldK s₁.heap s'.heap ∧ s'.os = s₁.os ∧ AllBare s'.gens) s₁ := by
  have rv := vals_ints hi
  have lenV := hi.length
  -- from an abstract heap in which nothing but the script may be tracked
  have core : ∀ H : Hp, Only H → SqL K H a (ns.map V.int) → HOk P w H s₁.heap → (∀ b, H b ≠ none → b = a) → (H a ≠ none → K.lookup a = none) →
      codeAny (model P w) callerA (.call (.ref fa) ⟨[.ref a], []⟩) (fun r s' => r = .ok (.ret (.bool true)) ∧ OldK s₁.heap s'.heap ∧ s'.os = s₁.os ∧ AllBare s'.gens) s₁ := by
    intro H hO hS hok hA hK
    have base_of : ∀ {b : Addr} {o : Obj}, s₁.heap.get? b = some o → H b = none → (hidT s₁.heap H).get? b = some o := fun e n => hidT_get e n
    have noA : ∀ {b : Addr} {o : Obj} {es : Array DictEntry} {ep : Nat}, s₁.heap.get? b = some o → o.data = .dict es ep → H b = none := fun {b o es ep} e d => by
      cases q : H b with
      | none => rfl
      | some u =>
        have e' : b = a := hA b (by rw [q]; simp)
        subst e'
        rw [ha] at e; cases e
        have d' : Data.seq vs.toArray _ = Data.dict es ep := d
        cases d'
    have nsK : ∀ {b : Addr} {m : Str → Option Value}, s₁.heap.Ns b m → (hidT s₁.heap H).Ns b m := fun {b m} ⟨o, es, ep, e, d, r⟩ => ⟨o, es, ep, base_of e (noA e d), d, r⟩
    have hKb : K.In (hidT s₁.heap H) := fun b o e => base_of (KX b o e) (by
      cases q : H b with
      | none => rfl
      | some u =>
        have e' : b = a := hA b (by rw [q]; simp)
        subst e'
        rw [hK (by rw [q]; simp)] at e; cases e)
    have hM : Mod K mg (hidT s₁.heap H) := ⟨hKb, nsK hns, ⟨mb, nsK hb, hbb⟩, let ⟨mc, h1, h2⟩ := hlim; ⟨mc, nsK h1, h2⟩⟩
    have e0 : Env0 P w K mg (hidT s₁.heap H) callerA [] s₁ H := ⟨rfl, hM, fun b o e => of_hidT e, Nat.le_of_eq (hidT_size _ _), trivial, fun b hb => absurd (show b ∈ ([] : List Addr) from hb) (by simp), hok, .of_eq hg⟩
    refine codeAny_mono ((F _ hKb (nsK hns)).run callerA [] s₁ H ⟨[.ref a], []⟩ [.ref a] [.ref a] _ _ hr e0 (hbind s₁ (.ref a)) (.cons rfl .nil) (hsp H hO hS)) fun r s' h => ?_
    cases r with
    | error e => exact (hCX H e s' h).elim
    | ok fl =>
      cases fl with
      | next => exact False.elim h
      | brk => exact False.elim h
      | cont => exact False.elim h
      | ret u =>
        obtain ⟨v, H', os, bare, un, hok', r', q⟩ := h
        have q' : v = .bl true := q
        subst q'
        obtain rfl : u = Value.bool true := r'
        refine ⟨rfl, OldK.of_keep fun b o e => ?_, os, bare⟩
        cases q : H b with
        | none => exact un.keep b o e q (by intro z; exact absurd (show b ∈ ([] : List Addr) from z) (by simp)) (by simp)
        | some u =>
          rcases hO b with z | ⟨ob, xs, z⟩
          · rw [q] at z; cases z
          · have z2 := un.frzs b ob _ z
            obtain ⟨e1, _⟩ := hok b _ z
            obtain ⟨e2, _⟩ := hok' b _ z2
            rw [e] at e1; cases e1
            exact e2
  cases hk : K.lookup a with
  | some o =>
    -- the script is one of the module's own objects
    have e := KX a o hk
    rw [ha] at e
    cases e
    refine core (fun _ => none) (fun _ => .inl rfl) (.inr ⟨_, vs.toArray, _, hk, rfl, rfl, rfl, by rw [List.size_toArray, lenV]; exact hl, by simpa using rv⟩) (fun b u z => by have z' : (none : Option HO) = some u := z; cases z') (fun b z => absurd rfl z) fun z => absurd rfl z
  | none =>
    refine core (fun b => if b = a then some (.frz { cls := .type "list", data := .seq vs.toArray } (.lst (ns.map V.int))) else none) (fun b => ?_) (.inl (.inr ⟨{ cls := .type "list", data := .seq vs.toArray }, if_pos rfl⟩)) (fun b u z => ?_) (fun b z => ?_) fun _ => hk
    · by_cases hb : b = a
      · exact .inr ⟨_, _, if_pos hb⟩
      · exact .inl (if_neg hb)
    · by_cases hb : b = a
      · have z' := (if_pos hb).symm.trans z
        cases z'
        subst hb
        exact ⟨ha, by rw [List.length_map]; exact hl, vs, _, rv, ha⟩
      · have z' := (if_neg hb).symm.trans z
        cases z'
    · by_cases hb : b = a
      · exact hb
      · exact absurd (if_neg hb) z
end L2

namespace L2
open PySem PySem.Spec PyProof.Rows


/-- the goal that k_head leaves (case hc), from the law's promise. F gives the function object fd (K's own) once, then the promise over every base -/
theorem walk_of {l : PySem.W.OpenLaw} {n k : Nat} {q : Program} {loose : List Str} {XP : (Str → Option Value) → Heap → Prop} {YP : World → Heap → Prop} {d : DefRec} {K : Params → PySem.W.Frag} {CX : World → CXT} {sp : World → Sp} {x : Str}
    (hn : l.most = some n) (hn2 : n ≤ sizeLine) (hdf : d.params.defaults = []) (hr : Room k callerA)
    (hY : ∀ (w : World) (h : Heap), YP w h → (K w.params).In h)
    (F : ∀ (w : World) (mg : Str → Option Value) (fa : Addr) (h : Heap), (K w.params).In h → h.Ns mainGlobals mg → mg d.name = some (.ref fa) →
      ∃ fd : FuncData, (∀ (s : Shared) (u : Value), BindsTo s fd ⟨[u], []⟩ [(x, u)]) ∧
        ∀ base : Heap, (K w.params).In base → base.Ns mainGlobals mg → FnOk l.prog w (K w.params) mg base (CX w) k fa fd [x] (sp w))
    (hsp : ∀ (w : World) (H : Hp) (a : Addr) (ns : List Int), ns.length ≤ n → Only H → SqL (K w.params) H a (ns.map V.int) → sp w [.ref a] H (fun v _ => v = .bl true) fun _ _ _ => False)
    (hCX : ∀ (w : World) (H : Hp) (s : Shared) (e : Value) (s' : Shared), CX w [] H s (fun _ _ _ => False) e s' → False) :
    PySem.W.WalkO q loose XP YP l.row.toRowW d [] (fun f vs => PySem.call f vs) := by
  refine Att.attach_call hn hdf fun w s₀ s₁ mg mb fa o pm cd doc a vs ns G Y ho hd hcd hmg hobj hints hlen hg => ?_
  have KX := hY w _ Y
  obtain ⟨fd, hb, hF⟩ := F w mg fa _ KX G.T.g hmg
  exact law_call KX G.T.g G.T.b G.T.builtins G.T.nolimit hg hobj hints (Nat.le_trans hlen hn2) hr hF hb (fun H hO hS => hsp w H a ns hlen hO hS) fun H e s' => hCX w H s₁ e s'
end L2

/- THE LAST THEOREM (shape; LID, My.* are yours):
   My.Adr: a structure of the addresses that your layer names (classes, functions); My.Txt K t: a structure (Prop) of the equations over K;
   My.txt_mk : {K} {implicit addresses ..} (e1 : nsIn K mainGlobals "law" = some (some (.ref f))) (e2 : K.lookup f = some ⟨oc, od, .func (fnOf "law" "law" params body scope dV kV doc pm an cdv ct), sl⟩) (e3 : codeIn K cdv "law" = true) .. : ∃ t, My.Txt K t

theorem PySem.Challenge.cw_LID_holds : PySem.Challenge.rw_LID.Holds := by
  w_on; o_law; k_head; (case hw => w_witness2)
  k_fill
  refine L2.walk_of (l := PySem.Challenge.rw_LID) (n := 63) (k := 40) (x := "script") (CX := fun w => ..) (sp := fun _ => My.sp_law) rfl (by decide) rfl ⟨rfl, by decide, by decide⟩ (fun w h Y => PySem.W.kIn_of Y) ?F ?S ?C
  case F =>
    intro w mg fa h KX G hmg
    have T : ∃ t, My.Txt (L2.KOf KX) t := by
      dsimp only [L2.KOf]                          -- K must stand as «<heap const> w.params» for k_is
      refine' My.txt_mk ?e1 ?e2 ?e3 ..
      (case e1 => PySem.W.k_is)                    -- in the order: a name -> its address -> its object -> its parts
      (case e2 => PySem.W.k_is)
      ..
    obtain ⟨t, T⟩ := T
    have e0 := hmg.symm.trans (PySem.W.mg_of KX G T.law)
    cases e0                                       -- fa is the law's own address
    exact ⟨_, fun s u => .of_eq rfl, fun base kb nb => My.law_fn T kb nb⟩     -- if «.of_eq rfl» comes too early: refine' ⟨_, ?b, fun base kb nb => My.law_fn T kb nb⟩; exact fun s u => .of_eq rfl
  case S => exact fun w H a ns hl hO hS => ..
  case C => exact ..
(the tactic k_is has no namespace: write k_is) -/

/-! SHORT WORDS over the layer: a def of the text, its body, what a loop and a test want. -/
namespace L2
open PySem PySem.Spec PyProof.Rows

/-! ### the text by places -/
noncomputable def defArgs (s : Stmt) : Arguments := match s with
  | .FunctionDef _ a _ _ _ _ _ _ _ _ => a
  | _ => { posonlyargs := [], args := [], vararg := none, kwonlyargs := [], kw_defaults := [], kwarg := none, defaults := [] }
noncomputable def defBody (s : Stmt) : List Stmt := match s with
  | .FunctionDef _ _ b _ _ _ _ _ _ _ => b
  | _ => []
noncomputable def defScope (s : Stmt) : Scope := match s with
  | .FunctionDef _ _ _ _ _ _ sc _ _ _ => sc
  | _ => { kind := .function, names := [], isGenerator := false, isCoroutine := false }

/-! ### no exception leaves a def -/
noncomputable abbrev CX0 : CXT := fun _ _ _ _ _ _ => False
noncomputable abbrev E0 : XK := fun _ _ _ => False
theorem pass0 {X : Cx} : Passes CX0 X E0 := fun _ _ _ _ _ _ _ h => h.elim

/-! ### a def (or method) of the text as it stands behind the top -/
structure Fun (K : PySem.W.Frag) (x qual : Str) (st : Stmt) (f : Addr) (fd : FuncData) : Prop where
  ex : ∃ (oc : Value) (od : Option Addr) (kV doc pm : Value) (an : Option Addr) (cdv ct : Value) (osl : Array (Option Value)),
    fd = PySem.W.fnOf x qual (defArgs st) (defBody st) (defScope st) .none kV doc pm an cdv ct ∧ K.lookup f = some ⟨oc, od, .func fd, osl⟩ ∧ PySem.W.codeIn K cdv qual = true
  kp : PySem.W.keepIn K (.ref f) = true
section
variable {P : Program} {w : World} {K : PySem.W.Frag} {mg : Str → Option Value} {base : Heap}
/-- THE RULE for a def: its body as a term of rules, and the reading of that term -/
theorem Fun.ok {x qual : Str} {st : Stmt} {f : Addr} {fd : FuncData} {N ps : List Str} {k : Nat} {sp : Sp} (F : Fun K x qual st f fd) (S : FnScope N ps (defScope st)) (len : ∀ vs H Q E, sp vs H Q E → vs.length = ps.length)
    (hbody : ∀ (cdv : Value) (A : Around) (outer : List Env) (s : Shared) (H : Hp) (vs : List V) (Q : VK) (E : XK), Room k (A.deeper (envOfC qual (defScope st) s.heap.objs.size f cdv)) → sp vs H Q E →
      ∃ t, PSs (cxOf CX0 P w K mg base N qual (defScope st) f cdv A outer s H E).nox (defBody st) t ∧ t { nx := fun _ H' => Q .non H', rt := Q } (start N vs) H) : FnOk P w K mg base CX0 (k + 1) f fd ps sp := by
  obtain ⟨oc, od, kV, doc, pm, an, cdv, ct, osl, rfl, lk, hcd⟩ := F.ex
  refine fn_of lk hcd S len fun A outer s H vs Q E hr hsp => ?_
  obtain ⟨t, h, q⟩ := hbody cdv A outer s H vs Q E hr hsp
  exact ⟨t, h.nox, q⟩
theorem fun_mk {x qual : Str} {st : Stmt} {f : Addr} {oc : Value} {od an : Option Addr} {osl : Array (Option Value)} {kV doc pm cdv ct : Value} (l : K.lookup f = some ⟨oc, od, .func (PySem.W.fnOf x qual (defArgs st) (defBody st) (defScope st) .none kV doc pm an cdv ct), osl⟩)
    (c : PySem.W.codeIn K cdv qual = true) (k : PySem.W.keepIn K (.ref f) = true) : Fun K x qual st f (PySem.W.fnOf x qual (defArgs st) (defBody st) (defScope st) .none kV doc pm an cdv ct) := ⟨⟨oc, od, kV, doc, pm, an, cdv, ct, osl, rfl, l, c⟩, k⟩
end
theorem hu_of {A : Around} {k : Nat} (hr : Room k A) : A.units + 1 < cLine := Nat.lt_of_le_of_lt (Nat.add_le_add_left (by decide : 1 ≤ 64) _) hr.units
theorem small1000 {n : Nat} (h : n ≤ 1000) : n < sizeLine := Nat.lt_of_le_of_lt h (by decide)

/-! ### expressions in short: the name that stands in the i-th slot -/
section
variable {X : Cx}
end

/-! ### tests -/
theorem ite2 {c A B : Prop} [Decidable c] (h1 : c → A) (h2 : ¬ c → B) : if c then A else B := by
  by_cases h : c
  · rw [if_pos h]
    exact h1 h
  · rw [if_neg h]
    exact h2 h

/-! ### heaps -/
/-- all that was tracked is as it was -/
noncomputable def Same (H H' : Hp) : Prop := ∀ b o, H b = some o → H' b = some o
theorem Same.refl (H : Hp) : Same H H := fun _ _ h => h
theorem Same.trans {H H1 H2 : Hp} (a : Same H H1) (b : Same H1 H2) : Same H H2 := fun c o h => b c o (a c o h)

/-! ### a dict's pairs: keys that differ -/
section
variable {κ : Type} [DecidableEq κ]
end
end L2


set_option maxRecDepth 100000
namespace L2
open PySem PySem.Spec PyProof.Rows

/-! ### list comprehensions with one clause -/
/-- the cells that a comprehension's block is handed -/
noncomputable def ccl (sc : Scope) (env : Env) : List (Str × Addr) := (sc.names.filterMap fun p => if p.2 == .free then (env.cells.lookup p.1).map fun c => (p.1, c) else none).reverse

theorem forIn_cells {env : Env} : ∀ (l : List (Str × NameKind)) (acc : List (Str × Addr)), (∀ p ∈ l, p.2 = .free → ∃ c, env.cells.lookup p.1 = some c) →
    (forIn l acc fun (x : Str × NameKind) r => match x with | (name, kind) => (if (kind == NameKind.free) = true then do let a ← cellOf env name; pure (ForInStep.yield ((name, a) :: r)) else pure (ForInStep.yield r) : Sem _)) =
      pure ((l.filterMap fun p => if p.2 == .free then (env.cells.lookup p.1).map fun c => (p.1, c) else none).reverse ++ acc)
  | [], acc, _ => rfl
  | (n, k) :: r, acc, h => by
    rw [List.forIn_cons]
    have hr : ∀ p ∈ r, p.2 = .free → ∃ c, env.cells.lookup p.1 = some c := fun p hp => h p (List.mem_cons_of_mem _ hp)
    by_cases hk : k = .free
    · subst hk
      obtain ⟨c, hc⟩ := h (n, .free) List.mem_cons_self rfl
      have e1 : cellOf env n = pure c := by unfold cellOf; rw [hc]
      simp only [beq_self_eq_true, if_true, e1, pure_bind]
      rw [forIn_cells r _ hr]
      simp [List.filterMap_cons, hc]
    · have hb : (k == NameKind.free) = false := by simpa using hk
      simp only [hb, Bool.false_eq_true, if_false, pure_bind]
      rw [forIn_cells r _ hr]
      simp [List.filterMap_cons, hk]
theorem closure_ccl {sc : Scope} {env : Env} (h : ∀ p ∈ sc.names, p.2 = .free → ∃ c, env.cells.lookup p.1 = some c) : closureFor sc env = pure (ccl sc env) := by
  unfold closureFor
  have q := forIn_cells (env := env) sc.names [] h
  rw [List.append_nil] at q
  unfold ccl
  rw [← q, bind_pure]

theorem lookup_revmap {f : Str → Option Addr} : ∀ (l : List (Str × NameKind)) (x : Str) (c : Addr),
    (l.filterMap fun p => if p.2 == .free then (f p.1).map fun c => (p.1, c) else none).reverse.lookup x = some c → f x = some c := by
  intro l x c h
  have hm := PySem.mem_of_lookup h
  rw [List.mem_reverse, List.mem_filterMap] at hm
  obtain ⟨p, _, e⟩ := hm
  split at e
  · cases q : f p.1 with
    | none => rw [q] at e; cases e
    | some d =>
      rw [q] at e
      simp only [Option.map_some, Option.some.injEq, Prod.mk.injEq] at e
      obtain ⟨e1, e2⟩ := e
      rw [← e1, q, e2]
  · cases e
theorem lookup_some_of_mem {β : Type} : ∀ {l : List (Str × β)} {x : Str} {c : β}, (x, c) ∈ l → ∃ d, l.lookup x = some d
  | [], _, _, h => nomatch h
  | (n, d) :: r, x, c, h => by
    by_cases e : x = n
    · subst e; exact ⟨d, by simp [List.lookup_cons]⟩
    · have hb : (x == n) = false := by simpa using e
      rcases List.mem_cons.mp h with q | q
      · cases q; exact absurd rfl e
      · obtain ⟨d', hd⟩ := lookup_some_of_mem q
        exact ⟨d', by simp [List.lookup_cons, hb, hd]⟩
theorem ccl_sub {sc : Scope} {env : Env} {x : Str} {c : Addr} (h : (ccl sc env).lookup x = some c) : env.cells.lookup x = some c := lookup_revmap (f := fun n => env.cells.lookup n) sc.names x c h
theorem ccl_has {sc : Scope} {env : Env} {x : Str} {c : Addr} (hx : (x, NameKind.free) ∈ sc.names) (hc : env.cells.lookup x = some c) : (ccl sc env).lookup x = some c := by
  have hm : (x, c) ∈ ccl sc env := by
    unfold ccl
    rw [List.mem_reverse, List.mem_filterMap]
    exact ⟨(x, .free), hx, by simp [hc]⟩
  obtain ⟨d, hd⟩ := lookup_some_of_mem hm
  have := ccl_sub hd
  rw [hc] at this
  rw [hd, this]

theorem relabel_cases {env : Env} : ∀ {names : List (Str × NameKind)} {x : Str} {k : NameKind},
    (names.map fun (n, k) => if (k == NameKind.free && env.scope.kind == .function && env.kindOf n == some .cell) then (n, NameKind.cell) else (n, k)).lookup x = some k →
    names.lookup x = some k ∨ (k = .cell ∧ names.lookup x = some .free)
  | [], _, _, h => by simp at h
  | (n, q) :: r, x, k, h => by
    have ih := @relabel_cases env r x k
    rw [List.map_cons] at h
    cases hx : x == n with
    | true =>
      by_cases hc : (q == NameKind.free && env.scope.kind == .function && env.kindOf n == some .cell) = true
      · simp only [hc, if_true, List.lookup_cons, hx, Option.some.injEq] at h
        have hq : q = .free := by
          have := (Bool.and_eq_true _ _ ▸ (Bool.and_eq_true _ _ ▸ hc).1).1
          simpa using this
        subst hq
        exact .inr ⟨h.symm, by simp [List.lookup_cons, hx]⟩
      · simp only [hc, if_false, List.lookup_cons, hx, Option.some.injEq, Bool.false_eq_true] at h
        subst h
        exact .inl (by simp [List.lookup_cons, hx])
    | false =>
      have h' : (r.map fun (n, k) => if (k == NameKind.free && env.scope.kind == .function && env.kindOf n == some .cell) then (n, NameKind.cell) else (n, k)).lookup x = some k := by
        by_cases hc : (q == NameKind.free && env.scope.kind == .function && env.kindOf n == some .cell) = true
        · simpa only [hc, if_true, List.lookup_cons, hx] using h
        · simpa only [hc, if_false, List.lookup_cons, hx, Bool.false_eq_true] using h
      rcases ih h' with z | ⟨z1, z2⟩
      · exact .inl (by simp [List.lookup_cons, hx, z])
      · exact .inr ⟨z1, by simp [List.lookup_cons, hx, z2]⟩
theorem relabel_free {env : Env} : ∀ {names : List (Str × NameKind)} {x : Str}, names.lookup x = some .free →
    (names.map fun (n, k) => if (k == NameKind.free && env.scope.kind == .function && env.kindOf n == some .cell) then (n, NameKind.cell) else (n, k)).lookup x = some .cell ∨
    (names.map fun (n, k) => if (k == NameKind.free && env.scope.kind == .function && env.kindOf n == some .cell) then (n, NameKind.cell) else (n, k)).lookup x = some .free
  | [], _, h => by simp at h
  | (n, q) :: r, x, h => by
    have ih := @relabel_free env r x
    rw [List.map_cons]
    cases hx : x == n with
    | true =>
      simp only [List.lookup_cons, hx, Option.some.injEq] at h
      subst h
      by_cases hc : (NameKind.free == NameKind.free && env.scope.kind == .function && env.kindOf n == some .cell) = true
      · exact .inl (by simp only [hc, if_true, List.lookup_cons, hx])
      · exact .inr (by simp only [hc, if_false, List.lookup_cons, hx, Bool.false_eq_true])
    | false =>
      simp only [List.lookup_cons, hx] at h
      by_cases hc : (q == NameKind.free && env.scope.kind == .function && env.kindOf n == some .cell) = true
      · simpa only [hc, if_true, List.lookup_cons, hx] using ih h
      · simpa only [hc, if_false, List.lookup_cons, hx, Bool.false_eq_true] using ih h

/-- the block's context -/
noncomputable def cxComp (X : Cx) (N : List Str) (sc : Scope) (pins : List (Addr × Obj)) (C : Addr) (s₀ : Shared) (H₀ : Hp) (fp : List Addr) : Cx :=
  { X with N := N, s₀ := s₀, H₀ := H₀, env := compEnvC sc (ccl sc X.env) C X.env, outer := X.stack, ex := fp, fn := fun _ => false, pn := X.pn ++ pins, xe := fun _ _ => False }

/-- the scope of a comprehension: n own names, then the free ones; fr: their places among the names around -/
structure CScope (X : Cx) (n : Nat) (fr : List Nat) (N : List Str) (sc : Scope) : Prop where
  kind : sc.kind = .function
  nocell : ∀ p ∈ sc.names, p.2 ≠ .cell
  own : ∀ p ∈ sc.names, p.2 = .local → sc.names.lookup p.1 = some .local
  out : ∀ p ∈ sc.names, p.2 = .free → X.env.kindOf p.1 = some .cell ∨ X.env.kindOf p.1 = some .free
  len : N.length = n + fr.length
  free : ∀ i x, N[n + i]? = some x → (x, NameKind.free) ∈ sc.names ∧ sc.names.lookup x = some .free ∧ ∃ j, fr[i]? = some j ∧ X.N[j]? = some x
/-- .. by what is written (CScope0) -/
noncomputable def CS0 (scX : Scope) (NX : List Str) (n : Nat) (fr : List Nat) (N : List Str) (sc : Scope) : Prop :=
  sc.kind = .function ∧ (∀ p ∈ sc.names, p.2 ≠ .cell) ∧ (∀ p ∈ sc.names, p.2 = .local → sc.names.lookup p.1 = some .local) ∧
  (∀ p ∈ sc.names, p.2 = .free → scX.names.lookup p.1 = some .cell ∨ scX.names.lookup p.1 = some .free) ∧ N.length = n + fr.length ∧
  (∀ x ∈ N.drop n, (x, NameKind.free) ∈ sc.names ∧ sc.names.lookup x = some .free) ∧ (N.drop n).map some = fr.map fun j => NX[j]?
instance {scX : Scope} {NX : List Str} {n : Nat} {fr : List Nat} {N : List Str} {sc : Scope} : Decidable (CS0 scX NX n fr N sc) := by unfold CS0; exact inferInstance
theorem cs_mk {X : Cx} {scX : Scope} {NX : List Str} {n : Nat} {fr : List Nat} {N : List Str} {sc : Scope} (h1 : X.env.scope = scX) (h2 : X.N = NX) (h : CS0 scX NX n fr N sc) : CScope X n fr N sc := by
  obtain ⟨a, b, c, d, e, f, g⟩ := h
  refine ⟨a, b, c, fun p hp z => ?_, e, fun i x hx => ?_⟩
  · have q := d p hp z
    rw [← h1] at q
    exact q
  · have hd : (N.drop n)[i]? = some x := by rw [List.getElem?_drop]; exact hx
    obtain ⟨f1, f2⟩ := f x (List.mem_of_getElem? hd)
    refine ⟨f1, f2, ?_⟩
    have q : ((N.drop n).map some)[i]? = some (some x) := by rw [List.getElem?_map, hd]; rfl
    rw [g, List.getElem?_map] at q
    cases z : fr[i]? with
    | none => rw [z] at q; cases q
    | some j =>
      rw [z] at q
      refine ⟨j, rfl, ?_⟩
      rw [h2]
      exact Option.some.inj q
noncomputable def cst (n : Nat) (fr : List Nat) (σ : St) : St := List.replicate n none ++ fr.map fun j => (σ[j]?).getD none

theorem closure_ok {X : Cx} {n : Nat} {fr : List Nat} {N : List Str} {sc : Scope} (S : CScope X n fr N sc) (ok : X.Ok) : closureFor sc X.env = pure (ccl sc X.env) :=
  closure_ccl fun p hp e => ok.has p.1 (S.out p hp e)

section
variable {X : Cx} {n : Nat} {fr : List Nat} {N : List Str} {sc : Scope} {pins : List (Addr × Obj)} {σ : St} {H : Hp} {s : Shared} {fp : List Addr} {h₁ : Heap} {tk : Nat}

theorem comp_start (S : CScope X n fr N sc) (I : Inv X pins σ H s) (hf : ∀ b ∈ fp, FpOk X pins H b) (hlt : ∀ b ∈ fp, b < s.heap.objs.size)
    (hn : h₁.Ns s.heap.objs.size (fun _ => none)) (hk : ∀ b o, s.heap.get? b = some o → h₁.get? b = some o) :
    Inv (cxComp X N sc pins s.heap.objs.size s H fp) [] (cst n fr σ) H { s with heap := h₁, toks := tk } := by
  have hsub : ∀ b ∈ frs X.stack, b ∈ X.env.locals :: X.fs := I.stkSub
  refine ⟨⟨I.ok.mod, ?_, I.ok.glob, I.ok.blt, Nat.le_refl _, fun x y c h1 h2 => ?_, fun x hx => ?_, fun x c z => (by cases z), I.ok.hd, I.ok.frames, .inl rfl, fun b hb => ⟨?_, fun x c e => ?_⟩, fun b o e => I.bs b o e, Nat.le_trans I.ok.bsz I.sz, fun b o e hb => ?_, fun b hb hz => ?_, I.stack, I.stkFree⟩,
    rfl, I.bare, Un.kept hk, ⟨_, hn, fun i x v e1 e2 e3 => ?_⟩, fun x c e => ?_, I.hok.fresh (Nat.le_refl _), fun x c e => ?_, fun p hp => ?_, I.hok.kept hk, ?_⟩
  · exact S.kind
  · exact I.ok.inj x y c (ccl_sub h1) (ccl_sub h2)
  · have hx' : (relabel sc X.env).names.lookup x = some .cell ∨ (relabel sc X.env).names.lookup x = some .free := hx
    have fr' : sc.names.lookup x = some .free := by
      rcases hx' with z | z
      · rcases relabel_cases z with q | ⟨_, q⟩
        · exact absurd rfl (S.nocell _ (PySem.mem_of_lookup q))
        · exact q
      · rcases relabel_cases z with q | ⟨q, _⟩
        · exact q
        · cases q
    obtain ⟨c, hc⟩ := I.ok.has x (S.out _ (PySem.mem_of_lookup fr') rfl)
    exact ⟨c, ccl_has (PySem.mem_of_lookup fr') hc⟩
  · exact Nat.ne_of_lt (hlt b hb)
  · exact (hf b hb).2.2.2.2.1 x c (ccl_sub e)
  · rcases (hf b hb).2.2.2.1 with z | z
    · exact I.ok.noex b o e z
    · exact absurd (Nat.lt_of_lt_of_le (Heap.lt_size e) (Nat.le_trans I.ok.bsz z)) (Nat.lt_irrefl _)
  · rcases List.mem_cons.mp (hsub b hz) with z | z
    · exact (hf b hb).2.1 z
    · exact (hf b hb).2.2.1 z
  · have e1' : N[i]? = some x := e1
    have hi : n ≤ i := by
      apply Nat.le_of_not_lt
      intro hlt
      unfold cst at e2
      rw [List.getElem?_append_left (by simpa using hlt), List.getElem?_replicate] at e2
      split at e2 <;> cases e2
    obtain ⟨j, rfl⟩ : ∃ j, i = n + j := ⟨i - n, by omega⟩
    obtain ⟨hm, hl, q, hq, hX⟩ := S.free j x e1'
    have e2' : (σ[q]?).getD none = some v := by
      unfold cst at e2
      rw [List.getElem?_append_right (by simp)] at e2
      simp only [List.length_replicate, Nat.add_sub_cancel_left, List.getElem?_map, hq, Option.map_some, Option.some.injEq] at e2
      exact e2
    have hσ : σ[q]? = some (some v) := by
      cases z : σ[q]? with
      | none => rw [z] at e2'; cases e2'
      | some w => rw [z] at e2'; simp only [Option.getD_some] at e2'; rw [e2']
    have ko := S.out _ hm rfl
    have hv : Vis X.env.scope x := by
      rcases ko with z | z
      · exact .inr (.inl z)
      · exact .inr (.inr z)
    obtain ⟨m, _, hloc⟩ := I.loc
    obtain ⟨u, r, l⟩ := hloc q x v hX hσ hv
    refine ⟨u, r, .inr ⟨?_, ?_⟩⟩
    · exact relabel_free hl
    · rcases l with ⟨k, _⟩ | ⟨_, c, hc, hcell⟩
      · rcases ko with z | z <;> (rw [k] at z; cases z)
      · refine ⟨c, ccl_has hm hc, ?_⟩
        obtain ⟨o, ho, hd⟩ := hcell
        exact ⟨o, hk c o ho, hd⟩
  · obtain ⟨v, o, ho, hd⟩ := I.cell x c (ccl_sub e)
    exact ⟨v, o, hk c o ho, hd⟩
  · exact I.freeC x c (ccl_sub e)
  · have hp' : p ∈ X.pn ++ pins := by
      have z : p ∈ (X.pn ++ pins) ++ [] := hp
      rwa [List.append_nil] at z
    obtain ⟨e, hn', ne, nf, d⟩ := I.pin p hp'
    refine ⟨hk p.1 p.2 e, hn', Nat.ne_of_lt (Heap.lt_size e), fun hz => ?_, d⟩
    rcases List.mem_cons.mp (hsub p.1 hz) with z | z
    · exact ne z
    · exact nf z
  · show (cst n fr σ).length = N.length
    unfold cst
    rw [List.length_append, List.length_replicate, List.length_map, S.len]

/-- back from the block -/
theorem comp_back {C : Addr} {σ' : St} {H' : Hp} {s' : Shared} {pins' : List (Addr × Obj)} (I : Inv X pins σ H s) (hf : ∀ b ∈ fp, FpOk X pins H b) (J : Inv (cxComp X N sc pins C s H fp) pins' σ' H' s') : Inv X pins σ H' s' :=
  I.call' (ch := fp) J.os J.base J.hok J.bare fun b hb => ⟨(hf b hb).2.2.2.1, (hf b hb).2.1, (hf b hb).2.2.2.2.1, (hf b hb).2.2.2.2.2⟩
end

/-- the clause's tests -/
noncomputable def PIfs (X : Cx) (ifs : List Expr) (t : TT) : Prop :=
  ∀ (pins : List (Addr × Obj)) (s : Shared) (σ : St) (H : Hp) (Q : Bool → Hp → Prop), Inv X pins σ H s → t σ H Q →
    wpAny (model X.prog X.w) X.A (forIn ifs true fun c r => if r = true then do let ok ← isTrue c X.env (eval c X.env); pure (ForInStep.yield ok) else pure (ForInStep.yield r)) (TP X pins σ Q) X.xe s
noncomputable def tTrue : TT := fun _ H Q => Q true H
theorem pifs_nil {X : Cx} : PIfs X [] tTrue := fun _ _ _ H _ I h => wpAny_pure ⟨H, I, h⟩

/-- the turns of a comprehension that fills the list at D, from the names σ and the heap H on -/
noncomputable def CompW (J : It) (g : TG) (tc : TT) (te : TE) (D : Addr) (σ : St) (H : Hp) (Q : VK) : Prop :=
  ∃ W : Nat → Nat → St → Hp → Prop, (∃ m, W 0 m σ H) ∧ ∀ i m σ' H', W i m σ' H' →
    (J.stop i H' ∧ Q (.ref D) H') ∨ (J.go i H' ∧ ∃ N : St → Hp → Prop, (∀ σ3 H3, N σ3 H3 → ∃ m', m' < m ∧ W (i + 1) m' σ3 H3) ∧ ∀ x H2, J.yld i H' x H2 → g x σ' H2 fun σ3 H3 => tc σ3 H3 fun b H4 =>
      if b = true then te σ3 H4 fun y H5 => ∃ ys, H5 D = some (.lst ys) ∧ ys.length < sizeLine ∧ N σ3 (upd H5 D (.lst (ys ++ [y])))
      else N σ3 H4)
/-- a comprehension's reading -/
noncomputable def tComp (wi : TI) (n : Nat) (fr : List Nat) (g : TG) (tc : TT) (te : TE) : TE := fun σ H Q => wi σ H fun J H1 => ∀ D, H1 D = none → CompW J g tc te D (cst n fr σ) (upd H1 D (.lst [])) Q

section
variable {X : Cx} {n : Nat} {fr : List Nat} {N : List Str} {sc : Scope} {elt tg iter : Expr} {ifs : List Expr} {pos : Pos} {wi : TI} {g : TG} {tc : TT} {te : TE}

theorem comp_run {pins : List (Addr × Obj)} {σ : St} {H : Hp} {s : Shared} {fp : List Addr} {it : Addr} {tn : Nat → Heap → Prop} {J : It} {Q : VK} {E : Value → Shared → Prop} {RR : Value → Addr → Result → Shared → Prop}
    (hc : X.calm = true) (S : CScope X n fr N sc)
    (hg : ∀ C s₀ H₀ fp, PG (cxComp X N sc pins C s₀ H₀ fp) tg g) (hi : ∀ C s₀ H₀ fp, PIfs (cxComp X N sc pins C s₀ H₀ fp) ifs tc) (he : ∀ C s₀ H₀ fp, PE (cxComp X N sc pins C s₀ H₀ fp) elt te)
    (I : Inv X pins σ H s) (T : Turn X.prog X.w X.K tg J fp it tn) (st : tn 0 s.heap) (hf : ∀ b ∈ fp, FpOk X pins H b)
    (h : ∀ D, H D = none → CompW J g tc te D (cst n fr σ) (upd H D (.lst [])) Q)
    (hR : ∀ D C H' s', Inv X pins σ H' s' → FpOk X pins H' C → (∃ m, s'.heap.Ns C m) → Q (.ref D) H' → RR (.ref D) C (.ok .next) s') :
    wpAny (model X.prog X.w) X.A (newList []) (fun acc s₃ => wpAny (model X.prog X.w) X.A (newFunctionEnv sc X.env.globals (ccl sc X.env) [] X.env.qual none .none (some X.env)) (fun cenv s₄ =>
      codeAny (model X.prog X.w) X.A (.compStart (.ListComp elt [⟨tg, iter, ifs, 0⟩] sc pos) 0 (.ref it) acc { cenv with scope := relabel sc X.env }) (RR acc cenv.locals) s₄) E s₃) E s := by
  have hfree : H s.heap.objs.size = none := I.hok.fresh (Nat.le_refl _)
  have hltf : ∀ b ∈ fp, b < s.heap.objs.size := fun b hb => by
    obtain ⟨o, e, _⟩ := T.obj 0 s.heap st b hb
    exact Heap.lt_size e
  obtain ⟨W, ⟨m0, w0⟩, turn⟩ := h s.heap.objs.size hfree
  refine wpAny_newObj_type (wpAny_newFunctionEnv S.nocell (by intro y hy; simp at hy) (fun h₁ hns₁ hsb₁ => ?_) S.kind)
  dsimp only at hns₁ hsb₁ ⊢
  have I3 : Inv X pins σ (upd H s.heap.objs.size (.lst [])) { s with heap := s.heap.push { cls := .type "list", dict := none, data := .seq ([] : List Value).toArray } } :=
    I.laid (t' := s.toks) (fun b u e => Heap.get?_push_of_some _ e) (Nat.le_refl _) ⟨Nat.zero_le _, [], 0, .nil, Heap.get?_push_size _ rfl⟩
  have hf3 : ∀ b ∈ fp, FpOk X pins (upd H s.heap.objs.size (.lst [])) b := fun b hb => ⟨by rw [upd_ne (Nat.ne_of_lt (hltf b hb))]; exact (hf b hb).1, (hf b hb).2⟩
  generalize hs3 : ({ s with heap := s.heap.push { cls := .type "list", dict := none, data := .seq ([] : List Value).toArray } } : Shared) = s3 at *
  have e3 : s3.heap = s.heap.push { cls := .type "list", dict := none, data := .seq ([] : List Value).toArray } := by rw [← hs3]
  have et : s3.toks = s.toks := by rw [← hs3]
  have hlt3 : ∀ b ∈ fp, b < s3.heap.objs.size := fun b hb => by rw [e3, Heap.size_push]; exact Nat.lt_succ_of_lt (hltf b hb)
  have hk3 : ∀ b o, s3.heap.get? b = some o → h₁.get? b = some o := fun b o e => hsb₁.extBut b o (by rw [← e3]; exact Nat.ne_of_lt (Heap.lt_size e)) (by rw [← e3]; exact Heap.get?_push_of_some _ e)
  have hns3 : h₁.Ns s3.heap.objs.size (fun _ => none) := by rw [e3]; exact hns₁
  have I4 := comp_start (tk := s.toks + ([] : List (Str × Value)).length) S I3 hf3 hlt3 hns3 hk3
  have hDk : ∀ b o, s.heap.get? b = some o → h₁.get? b = some o := fun b o e => hk3 b o (by rw [e3]; exact Heap.get?_push_of_some _ e)
  have st4 : tn 0 h₁ := T.keep 0 s.heap h₁ st fun b hb o e => hDk b o e
  have hfX : ∀ {H' : Hp}, (∀ b ∈ fp, H' b = none) → ∀ b ∈ fp, FpOk (cxComp X N sc pins s3.heap.objs.size s3 (upd H s.heap.objs.size (.lst [])) fp) [] H' b := fun {H'} hn b hb => by
    refine ⟨hn b hb, Nat.ne_of_lt (hlt3 b hb), fun z => ?_, .inl hb, fun x c e => (hf3 b hb).2.2.2.2.1 x c (ccl_sub e), fun p hp => ?_⟩
    · rcases List.mem_cons.mp (I3.stkSub b z) with q | q
      · exact (hf3 b hb).2.1 q
      · exact (hf3 b hb).2.2.1 q
    · have hp' : p ∈ (X.pn ++ pins) ++ [] := hp
      rw [List.append_nil] at hp'
      exact (hf3 b hb).2.2.2.2.2 p hp'
  have loop : ∀ s₄ : Shared, s₄ = { s3 with heap := h₁, toks := s.toks + ([] : List (Str × Value)).length } →
      codeAny (model X.prog X.w) X.A (.compLoop (.ListComp elt [⟨tg, iter, ifs, 0⟩] sc pos) 0 (.ref it) (.ref s.heap.objs.size) (compEnvC sc (ccl sc X.env) s3.heap.objs.size X.env)) (RR (.ref s.heap.objs.size) s3.heap.objs.size) s₄ := by
    rintro s₄ rfl
    refine codeAny_loop rfl (fun k s' => ∃ i σ' H', Inv (cxComp X N sc pins s3.heap.objs.size s3 (upd H s.heap.objs.size (.lst [])) fp) [] σ' H' s' ∧ tn i s'.heap ∧ (∀ b ∈ fp, H' b = none) ∧ W i k σ' H') ?_ m0
      ⟨0, _, _, I4, st4, fun b hb => (hf3 b hb).1, w0⟩
    rintro k s5 ⟨i, σ5, H5, I5, st5, fr5, w5⟩
    show wpAny _ X.A ((compTurn (.ListComp elt [⟨tg, iter, ifs, 0⟩] sc pos) 0 (.ref it) (.ref s.heap.objs.size) (compEnvC sc (ccl sc X.env) s3.heap.objs.size X.env)).onRaise (fun x => do noteFrame x (compEnvC sc (ccl sc X.env) s3.heap.objs.size X.env); theTreesLotGoes x)) _ _ s5
    refine wpAny_noted ?_
    rw [compTurn_list]
    refine wpAny_bind (wpAny_standAt (wpAny_bind ?_))
    have nev : ∀ {α : Type} {t : Sem α} {Q₁ : α → Shared → Prop} {E₁ : Value → Shared → Prop} {s₁ : Shared}, wpAny (model X.prog X.w) X.A t Q₁ (fun _ _ => False) s₁ → wpAny (model X.prog X.w) X.A t Q₁ E₁ s₁ := fun h => wpAny_noRaise h
    rcases turn i k σ5 H5 w5 with ⟨stop, qn⟩ | ⟨go, Nn, hN, step⟩
    · refine nev (thn (T.done (cxComp X N sc pins s3.heap.objs.size s3 (upd H s.heap.objs.size (.lst [])) fp) rfl rfl rfl hc i [] s5 σ5 H5 (fun _ _ => False) I5 (hfX fr5) st5 stop) fun r s6 ⟨hr, I6⟩ => ?_)
      subst hr
      have B : Inv X pins σ H5 s6 := comp_back I3 hf3 I6
      refine wpAny_pure (hR _ _ H5 s6 B (I3.fpOk (Nat.le_refl _) I6.free) ?_ qn)
      obtain ⟨m, hm, _⟩ := I6.loc
      exact ⟨m, hm⟩
    · refine nev (thn (T.item (cxComp X N sc pins s3.heap.objs.size s3 (upd H s.heap.objs.size (.lst [])) fp) rfl rfl rfl hc i [] s5 σ5 H5 (fun _ _ => False) I5 (hfX fr5) st5 go) fun r s6 ⟨u, hr, h6⟩ => ?_)
      subst hr
      refine wpAny_bind (nev (thn h6 fun _ s7 ⟨x, H7, I7, r7, y7, st7, fr7⟩ => ?_))
      have I7' := I7.pinned (hfX fr7) (T.obj _ _ st7)
      refine wpAny_bind (nev (thn (hg _ _ _ _ _ s7 σ5 H7 x u _ I7' r7 (step x H7 y7)) fun _ s8 ⟨σ8, H8, I8, q8⟩ => ?_))
      refine wpAny_bind (nev (thn (hi _ _ _ _ _ s8 σ8 H8 _ I8 q8) fun b s9 ⟨H9, I9, q9⟩ => ?_))
      have fin : ∀ {s10 : Shared} {H10 : Hp} {m' : Nat}, m' < k → Inv (cxComp X N sc pins s3.heap.objs.size s3 (upd H s.heap.objs.size (.lst [])) fp) ([] ++ pinsAt fp s7.heap) σ8 H10 s10 → W (i + 1) m' σ8 H10 →
          ∃ m, m < k ∧ ∃ i σ' H', Inv (cxComp X N sc pins s3.heap.objs.size s3 (upd H s.heap.objs.size (.lst [])) fp) [] σ' H' s10 ∧ tn i s10.heap ∧ (∀ b ∈ fp, H' b = none) ∧ W i m σ' H' := fun {s10 H10 m'} hm I10 w10 => by
        refine ⟨m', hm, i + 1, σ8, H10, I10.unpinned, T.keep _ _ _ st7 fun b hb o e => (I10.pin (b, o) (List.mem_append_right _ (List.mem_append_right _ (mem_pinsAt hb e)))).1, fun b hb => ?_, w10⟩
        obtain ⟨o, e, d⟩ := T.obj _ _ st7 b hb
        exact (I10.pin (b, o) (List.mem_append_right _ (List.mem_append_right _ (mem_pinsAt hb e)))).2.1
      cases b with
      | false =>
        rw [if_neg Bool.false_ne_true] at q9
        obtain ⟨m', hm, w9⟩ := hN _ _ q9
        exact wpAny_pure ⟨rfl, fin hm I9 w9⟩
      | true =>
        rw [if_pos rfl] at q9
        refine wpAny_bind (wpAny_bind (nev (thn (he _ _ _ _ _ s9 σ8 H9 _ I9 q9) fun v s10 ⟨y, H10, I10, r10, q10⟩ => ?_)))
        obtain ⟨ys, hy, hz, n10⟩ := q10
        obtain ⟨m', hm, w10⟩ := hN _ _ n10
        refine wpAny_bind (nev (thn (mt_append _ s10 σ8 H10 (.ref s.heap.objs.size) [y] (.ref s.heap.objs.size) [v] (fun z H' => H' = upd H10 s.heap.objs.size (.lst (ys ++ [y]))) I10 rfl (.cons r10 .nil) ⟨_, ys, y, rfl, rfl, hy, hz, rfl⟩) fun z s11 ⟨_, H11, I11, _, e11⟩ => ?_))
        subst e11
        exact wpAny_pure (wpAny_pure ⟨rfl, fin hm I11 w10⟩)
  subst hs3
  exact codeAny_compStart_list (loop _ rfl) (T.self _ 0 _ _ _ st4 (loop _ rfl))

theorem pe_comp (hc : X.calm = true) (S : CScope X n fr N sc) (hit : PI X tg iter wi)
    (hg : ∀ pins C s₀ H₀ fp, PG (cxComp X N sc pins C s₀ H₀ fp) tg g) (hi : ∀ pins C s₀ H₀ fp, PIfs (cxComp X N sc pins C s₀ H₀ fp) ifs tc) (he : ∀ pins C s₀ H₀ fp, PE (cxComp X N sc pins C s₀ H₀ fp) elt te)
    (hs : ∀ x, foldedSetIterable iter X.env x = pure x := by intro _; rfl) : PE X (.ListComp elt [⟨tg, iter, ifs, 0⟩] sc pos) (tComp wi n fr g tc te) := by
  intro pins s σ H Q I h
  rw [eval_ListComp]
  refine wpAny_comprehension_free (use := none) rfl hs (closure_ok S I.ok) S.kind S.own ?_
  refine thn (hit pins s σ H _ I h) fun v s1 h1 => thn h1 fun itv s2 h2 => ?_
  obtain ⟨it, fp, tn, J, H2, e, I2, T, st2, f2, q2⟩ := h2
  subst e
  refine comp_run (RR := fun acc C => compPost (model X.prog X.w) X.A X.xe none (EP X pins σ Q) acc C) hc S (hg pins) (hi pins) (he pins) I2 T st2 f2 q2 fun D C H' s' I' fC hm q => ?_
  obtain ⟨m, hm⟩ := hm
  refine ⟨m, hm, fun h' hs' => ⟨.ref D, H', I'.turned (t' := s'.toks) (fun b o hb e => (hs'.2 b hb).trans e) fC.1 fC.2.1 fC.2.2.2.1 fC.2.2.2.2.1 fC.2.2.2.2.2, rfl, q⟩⟩

/-- name = [..] -/
theorem ps_setcomp {i : Nat} {x : Str} {pos' spos : Pos} (hc : X.calm = true) (hN : X.N.Nodup) (hi' : X.N[i]? = some x) (hx : Loc X.env.scope x) (S : CScope X n fr N sc) (hit : PI X tg iter wi)
    (hg : ∀ pins C s₀ H₀ fp, PG (cxComp X N sc pins C s₀ H₀ fp) tg g) (hi : ∀ pins C s₀ H₀ fp, PIfs (cxComp X N sc pins C s₀ H₀ fp) ifs tc) (he : ∀ pins C s₀ H₀ fp, PE (cxComp X N sc pins C s₀ H₀ fp) elt te)
    (hsw : swapsWith (.ListComp elt [⟨tg, iter, ifs, 0⟩] sc pos) (some (.Name x pos')) spos.line X.env = pure true)
    (hs : ∀ x, foldedSetIterable iter X.env x = pure x := by intro _; rfl) (hf : X.fn x = true ∨ X.env.scope.names.lookup x = some .local := by first | exact .inl rfl | exact .inr rfl | assumption) :
    PS X (.Assign [.Name x pos'] (.ListComp elt [⟨tg, iter, ifs, 0⟩] sc pos) spos) (tAsg (tComp wi n fr g tc te) (gName i)) := by
  intro pins s σ H D I h
  rw [exec_Assign_Name_used _ _ _ _ hsw]
  refine wpAny_bind (wpAny_standAt (wpAny_bind ?_))
  show wpAny _ X.A (do let _ ← comprehension (.ListComp elt [⟨tg, iter, ifs, 0⟩] sc pos) sc X.env _ (newList []) false (eval iter X.env) (some (assign (.Name x pos') X.env))) _ _ s
  refine wpAny_bind (wpAny_mono (wpAny_comprehension_free (use := some (assign (.Name x pos') X.env)) (Q := fun _ s' => SP X pins D .next s') rfl hs (closure_ok S I.ok) S.kind S.own ?_) (fun _ s' hq => wpAny_pure (wpAny_pure hq)) fun _ _ e => e)
  refine thn (hit pins s σ H _ I h) fun v s1 h1 => thn h1 fun itv s2 h2 => ?_
  obtain ⟨it, fp, tn, J, H2, e, I2, T, st2, f2, q2⟩ := h2
  subst e
  refine comp_run (Q := fun x H1 => gName i x σ H1 D.nx) (RR := fun acc C => compPost (model X.prog X.w) X.A X.xe (some (assign (.Name x pos') X.env)) (fun _ s' => SP X pins D .next s') acc C) hc S (hg pins) (hi pins) (he pins) I2 T st2 f2 q2 fun D' C H' s' I' fC hm q => ?_
  obtain ⟨m, hm⟩ := hm
  show wpAny _ X.A (assign (.Name x pos') X.env (.ref D')) _ _ _
  refine wpAny_assign_Name (store_ok2 I' hN hi' hx (v := .ref D') rfl (fun s'' I'' ch => ?_) hf)
  obtain ⟨a, hsb, ha⟩ := ch
  have hne : C ≠ a := by
    rcases ha with z | z
    · rw [z]; exact fC.2.1
    · exact fun z' => fC.2.2.2.2.1 x a z z'.symm
  exact ⟨m, hm.sameBut hsb hne, fun h' hs' => ⟨_, H', I''.turned (t' := s''.toks) (fun b o hb e => (hs'.2 b hb).trans e) fC.1 fC.2.1 fC.2.2.2.1 fC.2.2.2.2.1 fC.2.2.2.2.2, q⟩⟩
end

/-! ### the forms one uses -/
theorem comp_range {lo : Int} {n : Nat} {g : TG} {tc : TT} {te : TE} {σ : St} {H : Hp} {D : Addr} {Q : VK} (Pv : Nat → St → Hp → Prop) (h0 : Pv 0 σ (upd H D (.lst [])))
    (hs : ∀ i σ' H', i < n → Pv i σ' H' → g (.int (lo + i)) σ' H' fun σ3 H3 => tc σ3 H3 fun b H4 =>
      if b = true then te σ3 H4 fun y H5 => ∃ ys, H5 D = some (.lst ys) ∧ ys.length < sizeLine ∧ Pv (i + 1) σ3 (upd H5 D (.lst (ys ++ [y]))) else Pv (i + 1) σ3 H4) (hd : ∀ σ' H', Pv n σ' H' → Q (.ref D) H') :
    CompW (Itr lo n) g tc te D σ (upd H D (.lst [])) Q := by
  refine ⟨fun i m σ H => m = n - i ∧ i ≤ n ∧ Pv i σ H, ⟨n, by simp, Nat.zero_le _, h0⟩, ?_⟩
  rintro i m σ H ⟨rfl, hi, p⟩
  by_cases hlt : i < n
  · refine .inr ⟨hlt, Pv (i + 1), fun σ' H' p' => ⟨n - (i + 1), by omega, rfl, hlt, p'⟩, fun x H' y => ?_⟩
    obtain ⟨e, y⟩ := y
    subst e y
    exact hs i σ _ hlt p
  · have e : i = n := by omega
    subst e
    exact .inl ⟨Nat.le_refl _, hd σ H p⟩
theorem comp_list {K : PySem.W.Frag} {a : Addr} {xs : List V} {g : TG} {tc : TT} {te : TE} {σ : St} {H : Hp} {D : Addr} {Q : VK} (Pv : Nat → St → Hp → Prop) (h0 : Pv 0 σ (upd H D (.lst []))) (hl : ∀ i σ H, i ≤ xs.length → Pv i σ H → SqL K H a xs)
    (hs : ∀ i x σ' H', xs[i]? = some x → Pv i σ' H' → g x σ' H' fun σ3 H3 => tc σ3 H3 fun b H4 =>
      if b = true then te σ3 H4 fun y H5 => ∃ ys, H5 D = some (.lst ys) ∧ ys.length < sizeLine ∧ Pv (i + 1) σ3 (upd H5 D (.lst (ys ++ [y]))) else Pv (i + 1) σ3 H4) (hd : ∀ σ' H', Pv xs.length σ' H' → Q (.ref D) H') :
    CompW (Itl K a) g tc te D σ (upd H D (.lst [])) Q := by
  refine ⟨fun i m σ H => m = xs.length - i ∧ i ≤ xs.length ∧ Pv i σ H, ⟨xs.length, by simp, Nat.zero_le _, h0⟩, ?_⟩
  rintro i m σ H ⟨rfl, hi, p⟩
  have q := hl i σ H hi p
  by_cases hlt : i < xs.length
  · refine .inr ⟨⟨xs, xs[i], q, by simp [hlt]⟩, Pv (i + 1), fun σ' H' p' => ⟨xs.length - (i + 1), by omega, rfl, hlt, p'⟩, fun x H' y => ?_⟩
    obtain ⟨e, y⟩ := y
    subst e
    exact hs i x σ _ (y xs q) p
  · have e : i = xs.length := by omega
    subst e
    exact .inl ⟨⟨xs, q, Nat.le_refl _⟩, hd σ H p⟩
end L2
namespace L2
open PySem PySem.Spec PyProof.Rows
/-! ### names, by facts shown once -/
noncomputable def VarOk (sc : Scope) (x : Str) : Prop := Vis sc x ∧ (x == ("__debug__" : Str)) = false ∧ (x == ("__classdict__" : Str)) = false
instance {sc : Scope} {x : Str} : Decidable (VarOk sc x) := by unfold VarOk Vis; exact inferInstance
instance {sc : Scope} {x : Str} : Decidable (Loc sc x) := by unfold Loc; exact inferInstance
theorem pvx {X : Cx} (i : Nat) {x : Str} {pos : Pos} (v : VarOk X.env.scope x) (hN : X.N[i]? = some x := by rfl) : PE X (.Name x pos) (tVar i) := pe_var hN v.1 v.2.1 v.2.2
noncomputable def VarC (sc : Scope) (x : Str) : Prop := (sc.names.lookup x = some .local ∨ sc.names.lookup x = some .free) ∧ (x == ("__debug__" : Str)) = false ∧ (x == ("__classdict__" : Str)) = false
instance {sc : Scope} {x : Str} : Decidable (VarC sc x) := by unfold VarC; exact inferInstance
theorem VarC.ok {sc : Scope} {env : Env} {x : Str} (h : VarC sc x) : VarOk (relabel sc env) x := by
  obtain ⟨h1, h2⟩ := h
  refine ⟨?_, h2⟩
  rcases h1 with h1 | h1
  · exact .inl (lookup_relabel_local h1)
  · rcases relabel_free (env := env) h1 with z | z
    · exact .inr (.inl z)
    · exact .inr (.inr z)
theorem relabel_glob {env : Env} : ∀ {names : List (Str × NameKind)} {x : Str}, names.lookup x = some .globalImplicit →
    (names.map fun (n, k) => if (k == NameKind.free && env.scope.kind == .function && env.kindOf n == some .cell) then (n, NameKind.cell) else (n, k)).lookup x = some .globalImplicit
  | [], _, h => by simp at h
  | (n, q) :: r, x, h => by
    have ih := @relabel_glob env r x
    rw [List.map_cons]
    cases hx : x == n with
    | true =>
      simp only [List.lookup_cons, hx, Option.some.injEq] at h
      subst h
      simp [List.lookup_cons, hx]
    | false =>
      simp only [List.lookup_cons, hx] at h
      by_cases hc : (q == NameKind.free && env.scope.kind == .function && env.kindOf n == some .cell) = true
      · simpa only [hc, if_true, List.lookup_cons, hx] using ih h
      · simpa only [hc, if_false, List.lookup_cons, hx, Bool.false_eq_true] using ih h
theorem glC {X : Cx} {N : List Str} {sc : Scope} {pins : List (Addr × Obj)} {C : Addr} {s₀ : Shared} {H₀ : Hp} {fp : List Addr} {x : Str} (h : sc.names.lookup x = some .globalImplicit) : Gl (cxComp X N sc pins C s₀ H₀ fp) x := relabel_glob h
theorem pgx {X : Cx} {i : Nat} {x : Str} {pos : Pos} (hN : X.N.Nodup) (hx : X.env.scope.names.lookup x = some .local) (hi : X.N[i]? = some x := by rfl) : PG X (.Name x pos) (gName i) := pg_name hN hi (.inl hx) (.inr hx)
theorem locC {sc : Scope} {env : Env} {x : Str} (h : sc.names.lookup x = some .local) : (relabel sc env).names.lookup x = some .local := lookup_relabel_local h
end L2

set_option maxRecDepth 100000
namespace L2
open PySem PySem.Spec PyProof.Rows

/-! ### // by a positive divisor of any written size -/
noncomputable def CDivB (_ j : Int) : Prop := 0 < j ∧ j.natAbs.log2 < 9000
theorem op_fdivB {X : Cx} : OpR X (binaryOp .FloorDiv) (rI CDivB fun i j => .int (i / j)) := opI fun i j _ _ _ _ _ hc q => by
  have h1 : (0 : Int) < j := hc.1
  exact floordiv_int (by omega) (by rw [Int.fdiv_eq_ediv_of_nonneg i (by omega)]; exact q) (.inl (PyProof.noPylong_of_log2 hc.2))

/-! ### values as data, and == of them -/
mutual
inductive DatV (K : PySem.W.Frag) (H : Hp) : V → PyData → Prop where
  | non : DatV K H .non .none
  | bl (b : Bool) : DatV K H (.bl b) (.bool b)
  | int (i : Int) : DatV K H (.int i) (.int i)
  | str (x : Str) : DatV K H (.str x) (.str x)
  | lst {a : Addr} {xs : List V} {ds : List PyData} (h : SqL K H a xs) (r : DatVs K H xs ds) : DatV K H (.ref a) (.list ds)
  | tup {a : Addr} {xs : List V} {ds : List PyData} (h : SqT K H a xs) (r : DatVs K H xs ds) : DatV K H (.ref a) (.tuple ds)
inductive DatVs (K : PySem.W.Frag) (H : Hp) : List V → List PyData → Prop where
  | nil : DatVs K H [] []
  | cons {x : V} {d : PyData} {xs : List V} {ds : List PyData} (h : DatV K H x d) (r : DatVs K H xs ds) : DatVs K H (x :: xs) (d :: ds)
end
theorem datVs_strs {K : PySem.W.Frag} {H : Hp} : ∀ ns : List Str, DatVs K H (ns.map V.str) (ns.map PyData.str)
  | [] => .nil
  | n :: r => .cons (.str n) (datVs_strs r)

section
variable {X : Cx} {pins : List (Addr × Obj)} {σ : St} {H : Hp} {s : Shared}
mutual
theorem DatV.reads (I : Inv X pins σ H s) : ∀ {x : V} {d : PyData} {u : Value}, DatV X.K H x d → RelV x u → ∃ as, Reads s.heap u d as
  | _, _, _, .non, r => by cases (show _ = Value.none from r); exact ⟨_, .none⟩
  | _, _, _, .bl b, r => by cases (show _ = Value.bool b from r); exact ⟨_, .bool b⟩
  | _, _, _, .int i, r => by obtain ⟨t, rfl⟩ := r; exact ⟨_, .int i t⟩
  | _, _, _, .str x, r => by obtain ⟨t, rfl⟩ := r; exact ⟨_, .str x t⟩
  | _, _, _, .lst h q, r => by
    cases (show _ = Value.ref _ from r)
    obtain ⟨its, rv, ⟨o, n, e, c, _, d⟩, _⟩ := I.list h
    obtain ⟨as, hr⟩ := DatVs.reads I q rv
    exact ⟨_, .list e c d (by simpa using hr)⟩
  | _, _, _, .tup h q, r => by
    cases (show _ = Value.ref _ from r)
    obtain ⟨its, rv, ⟨o, e, c, n, d⟩, _⟩ := I.tuple h
    obtain ⟨as, hr⟩ := DatVs.reads I q rv
    exact ⟨_, .tuple e c d (by simpa using hr)⟩
theorem DatVs.reads (I : Inv X pins σ H s) : ∀ {xs : List V} {ds : List PyData} {us : List Value}, DatVs X.K H xs ds → Vals xs us → ∃ as, ReadsAll s.heap us ds as
  | _, _, _, .nil, .nil => ⟨_, .nil⟩
  | _, _, _, .cons h r, .cons q t => by
    obtain ⟨as, h1⟩ := DatV.reads I h q
    obtain ⟨bs, h2⟩ := DatVs.reads I r t
    exact ⟨_, .cons h1 h2⟩
end
end
noncomputable def rEqD (K : PySem.W.Frag) (neg : Bool) : R2 := fun x y H Q => ∃ d e, DatV K H x d ∧ DatV K H y e ∧ SeqAt.shaped d = true ∧ SeqAt.shaped e = true ∧ Q (.bl (if neg then !PyData.eqv d e else PyData.eqv d e)) H
theorem op_eqD {X : Cx} (hu : X.A.units + 64 < cLine) : OpR X (compareOp .Eq) (rEqD X.K false) := by
  intro pins s σ H x y v u Q I rx ry h
  obtain ⟨d, e, hd, he, sd, se, q⟩ := h
  obtain ⟨as, h1⟩ := hd.reads I rx
  obtain ⟨bs, h2⟩ := he.reads I ry
  exact eq_dataH h1 h2 sd se hu ⟨.bl _, H, I, rfl, q⟩
theorem op_neD {X : Cx} (hu : X.A.units + 64 < cLine) : OpR X (compareOp .NotEq) (rEqD X.K true) := by
  intro pins s σ H x y v u Q I rx ry h
  obtain ⟨d, e, hd, he, sd, se, q⟩ := h
  obtain ⟨as, h1⟩ := hd.reads I rx
  obtain ⟨bs, h2⟩ := he.reads I ry
  exact ne_dataH h1 h2 sd se hu ⟨.bl _, H, I, rfl, q⟩

/-! ### sep.join(texts) -/
theorem strs_vals : ∀ {ts : List Str} {us : List Value}, Vals (ts.map V.str) us → ∃ l : List (Str × Tok), strValues l = us ∧ l.map (·.1) = ts
  | [], _, .nil => ⟨[], rfl, rfl⟩
  | x :: ts, _, .cons r t => by
    obtain ⟨k, rfl⟩ := r
    obtain ⟨l, h1, h2⟩ := strs_vals t
    exact ⟨(x, k) :: l, by rw [← h1]; rfl, by rw [← h2]; rfl⟩
noncomputable def rJoin (K : PySem.W.Frag) : V → List V → Hp → VK → Prop := fun x vs H Q => ∃ sep p ts, x = .str sep ∧ vs = [.ref p] ∧ (SqL K H p (ts.map V.str) ∨ SqT K H p (ts.map V.str)) ∧ JoinOk sep ts = true ∧ Q (.str (Txt.join sep ts)) H
theorem mt_join {X : Cx} : MtR X "str.join" (rJoin X.K) := by
  intro pins s σ H x xs v us Q I rx rs h
  obtain ⟨sep, p, ts, rfl, rfl, hp, hok, q⟩ := h
  obtain ⟨t, rfl⟩ := rx
  obtain ⟨u, rfl, ru⟩ := Vals.one rs
  cases (show u = Value.ref p from ru)
  rcases hp with hp | hp
  · obtain ⟨its, rv, pl, _⟩ := I.list hp
    obtain ⟨l, h1, h2⟩ := strs_vals rv
    subst h1
    exact SC.join pl.isList h2 hok fun t' k => ⟨.str _, H, I.tok k, ⟨t', rfl⟩, q⟩
  · obtain ⟨its, rv, ⟨o, e, c, n, d⟩, _⟩ := I.tuple hp
    obtain ⟨l, h1, h2⟩ := strs_vals rv
    subst h1
    subst h2
    unfold JoinOk at hok
    rw [Bool.not_eq_true'] at hok
    exact call_meets F.slot_str_join (typeIs_str _ _ _) F.entry_str_join (F.args_str_join_2 _ _) (meets_str_join_tuple sep t p l hok)
      ⟨⟨o, n, e, c, d⟩, post_join l ⟨joinFit_length hok, fun t' k => ⟨.str _, H, I.tok k, ⟨t', rfl⟩, q⟩⟩⟩

/-! ### range(a, b, c) with a written c above 0 -/

/-! ### isinstance(x, T), T a built-in class -/
theorem call_isi {X : Cx} : CallR X (.builtin "isinstance") (fun xs H Q => ∃ x T t b, xs = [x, .ty T] ∧ TyOf X.K H x t ∧ PySem.W.kitOne X.K t (.type T) = some b ∧ Q (.bl b) H) := by
  intro pins s σ H xs us Q I r h
  obtain ⟨x, T, t, b, rfl, ty, e, q⟩ := h
  obtain ⟨u, v, rfl, r1, r2⟩ := Vals.two r
  cases (show v = Value.type T from r2)
  exact isinst_ok I r1 ty e fun tk => ⟨.bl b, H, I.tok tk, rfl, q⟩

/-! ### a dict of the module's top, keys texts -/
theorem bt_len : bootBuiltins "len" = some (.builtin "len") := by decide +kernel
theorem bt_isinstance : bootBuiltins "isinstance" = some (.builtin "isinstance") := by decide +kernel
theorem bt_max : bootBuiltins "max" = some (.builtin "max") := by decide +kernel
theorem bt_min : bootBuiltins "min" = some (.builtin "min") := by decide +kernel
theorem bt_int : bootBuiltins "int" = some (.type "int") := by decide +kernel
theorem bt_bool : bootBuiltins "bool" = some (.type "bool") := by decide +kernel
theorem bt_list : bootBuiltins "list" = some (.type "list") := by decide +kernel
theorem bt_tuple : bootBuiltins "tuple" = some (.type "tuple") := by decide +kernel
end L2

set_option maxRecDepth 100000
namespace L2
open PySem PySem.Spec PyProof.Rows
/-! ### the rules once more, their judgements as structures: the elaborator then looks at nothing else -/
structure QE (X : Cx) (e : Expr) (t : TE) : Prop where
  h : PE X e t
structure QT (X : Cx) (e : Expr) (t : TT) : Prop where
  h : PT X e t
structure QW (X : Cx) (e : Expr) (t : TT) : Prop where
  h : PW X e t
structure QA (X : Cx) (es : List Expr) (t : TA) : Prop where
  h : PA X es t
structure QS (X : Cx) (s : Stmt) (t : TS) : Prop where
  h : PS X s t
structure QSs (X : Cx) (s : List Stmt) (t : TS) : Prop where
  h : PSs X s t
structure QG (X : Cx) (e : Expr) (t : TG) : Prop where
  h : PG X e t
structure QGs (X : Cx) (es : List Expr) (t : TGs) : Prop where
  h : PGs X es t
structure QI (X : Cx) (tg e : Expr) (t : TI) : Prop where
  h : PI X tg e t
structure QO (X : Cx) (e : Option Expr) (t : TO) : Prop where
  h : PO X e t
structure QIfs (X : Cx) (es : List Expr) (t : TT) : Prop where
  h : PIfs X es t
structure QPs (X : Cx) (pos : Pos) (ks : List (Option Expr)) (vs : List Expr) (t : List (TE × TE)) : Prop where
  h : PPs X pos ks vs t
structure QOp (X : Cx) (f : Value → Value → Sem Value) (r : R2) : Prop where
  h : OpR X f r
structure QUn (X : Cx) (f : Value → Sem Value) (r : V → Hp → VK → Prop) : Prop where
  h : UnR X f r
structure QIx (X : Cx) (r : R2) : Prop where
  h : IxR X r
structure QSl (X : Cx) (r : V → Option Int → Option Int → Hp → VK → Prop) : Prop where
  h : SlR X r
structure QSet (X : Cx) (r : TSet) : Prop where
  h : PSet X r
structure QMt (X : Cx) (id : String) (r : V → List V → Hp → VK → Prop) : Prop where
  h : MtR X id r
structure QCall (X : Cx) (f : Value) (r : List V → Hp → VK → Prop) : Prop where
  h : CallR X f r
section
variable {X : Cx} {a b c e : Expr} {es : List Expr} {ta tb te : TE} {tA tB' : TT} {pos p : Pos} {x : Str}
theorem qe_var (i : Nat) (v : VarOk X.env.scope x) (hN : X.N[i]? = some x := by rfl) : QE X (.Name x pos) (tVar i) := ⟨pvx i v hN⟩
theorem qe_int {i j pos} : QE X (.Constant (.int i) j pos) (tC (.int i)) := ⟨pe_int⟩
theorem qe_bl {b j pos} : QE X (.Constant (.bool b) j pos) (tC (.bl b)) := ⟨pe_bl⟩
theorem qe_non {j pos} : QE X (.Constant .none j pos) (tC .non) := ⟨pe_non⟩
theorem qe_str {x j pos} : QE X (.Constant (.str x) j pos) (tC (.str x)) := ⟨pe_str⟩
theorem qe_glob {v : V} {u : Value} (hg : Gl X x) (hm : X.mg x = some u) (r : RelV v u) (hd : (x == ("__debug__" : Str)) = false) : QE X (.Name x pos) (tC v) := ⟨pe_glob hg hm r hd⟩
theorem qe_bltn {v : V} {u : Value} (hg : Gl X x) (hm : X.mg x = none) (hv : bootBuiltins x = some u) (r : RelV v u) (hn : x ≠ "__name__") (hd : (x == ("__debug__" : Str)) = false) : QE X (.Name x pos) (tC v) := ⟨pe_bltn hg hm hv r hn hd⟩
theorem qe_op {op : Operator} {r : R2} (ho : QOp X (binaryOp op) r) (ha : QE X a ta) (hb : QE X b tb) : QE X (.BinOp a op b pos) (tOp r ta tb) := ⟨pe_op ho.h ha.h hb.h⟩
theorem qe_un {op : UnaryOp} {r : V → Hp → VK → Prop} (ho : QUn X (unaryOp op) r) (ha : QE X a ta) : QE X (.UnaryOp op a pos) (tUn r ta) := ⟨pe_un ho.h ha.h⟩
theorem qe_cmp {op : CmpOp} {r : R2} (ho : QOp X (compareOp op) r) (ha : QE X a ta) (hb : QE X b tb) (hm : behindInMarks op b = false) : QE X (.Compare a [op] [b] pos) (tOp r ta tb) := ⟨pe_cmpR ho.h ha.h hb.h hm⟩
theorem qt_cmp {op : CmpOp} {r : R2} (ho : QOp X (compareOp op) r) (ha : QE X a ta) (hb : QE X b tb) (hm : behindInMarks op b = false) : QT X (.Compare a [op] [b] pos) (tTest (tOp r ta tb)) := ⟨pt_cmpR ho.h ha.h hb.h hm⟩
theorem qt_val (h : QE X e te) (he : ∀ whole, isTrue e X.env whole = (do let v ← whole; standAt e.pos; holding [v] (truthy v)) := by intro _; rfl) : QT X e (tB te) := ⟨pt_val h.h he⟩
theorem qt_truth (ha : QE X a ta) (he : ∀ whole, isTrue a X.env whole = (do let v ← whole; standAt a.pos; holding [v] (truthy v)) := by intro _; rfl) : QT X a (fun σ H Q => ta σ H fun x H1 => ∃ k, TruV X.K x H1 k ∧ Q k H1) := ⟨pt_truth ha.h he⟩
theorem qt_not (ha : QT X a tA) : QT X (.UnaryOp .Not a pos) (tNot tA) := ⟨pt_not ha.h⟩
theorem qe_not (ha : QE X a ta) : QE X (.UnaryOp .Not a pos) (tNotV ta) := ⟨pe_not ha.h⟩
theorem qw_and1 (ha : QT X a tA) : QW X (.BoolOp .And [a] pos) tA := ⟨pw_and1 ha.h⟩
theorem qw_or1 (ha : QT X a tA) : QW X (.BoolOp .Or [a] pos) tA := ⟨pw_or1 ha.h⟩
theorem qw_and {rest : List Expr} (ha : QT X a tA) (hb : QW X (.BoolOp .And (b :: rest) pos) tB') : QW X (.BoolOp .And (a :: b :: rest) pos) (tAnd tA tB') := ⟨pw_and ha.h hb.h⟩
theorem qw_or {rest : List Expr} (ha : QT X a tA) (hb : QW X (.BoolOp .Or (b :: rest) pos) tB') : QW X (.BoolOp .Or (a :: b :: rest) pos) (tOr tA tB') := ⟨pw_or ha.h hb.h⟩
theorem qt_w (h : QW X e tA) : QT X e tA := ⟨h.h.pt⟩
theorem qe_one {op} (h : QE X a ta) : QE X (.BoolOp op [a] pos) ta := ⟨pe_one h.h⟩
theorem qe_and {rest : List Expr} (ha : QE X a ta) (hb : QE X (.BoolOp .And (b :: rest) pos) tb) : QE X (.BoolOp .And (a :: b :: rest) pos) (tAndV ta tb) := ⟨pe_and ha.h hb.h⟩
theorem qe_or {rest : List Expr} (ha : QE X a ta) (hb : QE X (.BoolOp .Or (b :: rest) pos) tb) : QE X (.BoolOp .Or (a :: b :: rest) pos) (tOrV ta tb) := ⟨pe_or ha.h hb.h⟩
theorem qe_ifExp (hc : QT X c tA) (ha : QE X a ta) (hb : QE X b tb) : QE X (.IfExp c a b pos) (tIf tA ta tb) := ⟨pe_ifExp hc.h ha.h hb.h⟩
theorem qa_nil : QA X [] tNil := ⟨pa_nil⟩
theorem qa_cons {t : TA} (ha : QE X e te) (hr : QA X es t) (hs : starEach (e :: es) X.env = (false, eval e X.env) :: starEach es X.env := by rfl) : QA X (e :: es) (tCons te t) := ⟨pa_cons ha.h hr.h hs⟩
theorem qe_tup {x1} {t : TA} (h : QA X es t) : QE X (.Tuple es x1 pos) (tTup t) := ⟨pe_tup h.h⟩
theorem qe_lst {t : TA} (h : QA X es t) : QE X (.List es pos) (tLst t) := ⟨pe_lst h.h⟩
theorem qe_ix {r : R2} (hr : QIx X r) (ha : QE X a ta) (hb : QE X b tb) (hs : PlainIx b := by intro _ _; rfl) : QE X (.Subscript a b pos) (tOp r ta tb) := ⟨pe_ix hr.h ha.h hb.h hs⟩
theorem qo_none : QO X none tNoPart := ⟨po_none⟩
theorem qo_some (h : QE X e te) : QO X (some e) (tPart te) := ⟨po_some h.h⟩
theorem qe_slice {r : V → Option Int → Option Int → Hp → VK → Prop} {lo hi : Option Expr} {tl th : TO} {p2 : Pos} (hr : QSl X r) (he : QE X e te) (hl : QO X lo tl) (hu : QO X hi th) : QE X (.Subscript e (.Slice lo hi none p2) pos) (tSl r te tl th) := ⟨pe_slice hr.h he.h hl.h hu.h⟩
theorem qe_dget (hu : X.A.units + 1 < cLine) (ho : QE X a ta) (hi : QE X b tb) (hs : NoSl b := by intro _ _; rfl) : QE X (.Subscript a b pos) (tDGet ta tb) := ⟨pe_dget hu ho.h hi.h hs⟩
theorem qp_nil : QPs X pos [] [] [] := ⟨pps_nil⟩
theorem qp_cons {k v : Expr} {ks : List (Option Expr)} {vs : List Expr} {tk tv : TE} {trs : List (TE × TE)} (hk : QE X k tk) (hv : QE X v tv) (hr : QPs X pos ks vs trs) : QPs X pos (some k :: ks) (v :: vs) ((tk, tv) :: trs) := ⟨pps_cons hk.h hv.h hr.h⟩
theorem qe_disp {keys : List (Option Expr)} {values : List Expr} {trs : List (TE × TE)} (h : QPs X pos keys values trs) (hall : keys.all (·.isSome) = true := by rfl) (hl : keys.length = values.length := by rfl) (h1 : keys ≠ [] := by intro z; cases z) (h2 : keys.length ≤ 15 := by decide) : QE X (.Dict keys values pos) (tDisp trs) := ⟨pe_disp h.h hall hl h1 h2⟩
theorem qe_call {CX : CXT} {k : Nat} {f : Addr} {fd : FuncData} {ps : List Str} {sp : Sp} {dvs : List V} {ds : List Value} {E : XK} {t : TA} (F : FnOk X.prog X.w X.K X.mg X.base CX k f fd ps sp) (hr : Room k X.A) (hg : Gl X x) (hm : X.mg x = some (.ref f)) (hk : PySem.W.keepIn X.K (.ref f) = true) (hb : Binds X.K fd ps ds) (hd : Vals dvs ds) (hx : Passes CX X E)
    (ha : QA X (e :: es) t) (hdb : (x == ("__debug__" : Str)) = false) (he : starEach (e :: es) X.env = (false, eval e X.env) :: starEach es X.env := by rfl) (hpl : (backTo pos (starEach es X.env)).any (·.1) = false := by rfl) :
    QE X (.Call (.Name x p) (e :: es) [] pos) (tCall sp dvs E t) := ⟨pe_call F hr hg hm hk hb hd hx ha.h hdb he hpl⟩
theorem qe_callB {id : String} {r : List V → Hp → VK → Prop} {t : TA} (hc : QCall X (.builtin id) r) (hg : Gl X x) (hm : X.mg x = none) (hv : bootBuiltins x = some (.builtin id)) (ha : QA X (e :: es) t) (hn : x ≠ "__name__") (hdb : (x == ("__debug__" : Str)) = false)
    (he : starEach (e :: es) X.env = (false, eval e X.env) :: starEach es X.env := by rfl) (hpl : (backTo pos (starEach es X.env)).any (·.1) = false := by rfl) : QE X (.Call (.Name x p) (e :: es) [] pos) (tCB r t) := ⟨pe_callB hc.h hg hm hv ha.h hn hdb he hpl⟩
theorem qe_callTy {T : String} {r : List V → Hp → VK → Prop} {t : TA} (hc : QCall X (.type T) r) (hg : Gl X x) (hm : X.mg x = none) (hv : bootBuiltins x = some (.type T)) (ha : QA X (e :: es) t) (hn : x ≠ "__name__") (hdb : (x == ("__debug__" : Str)) = false)
    (he : starEach (e :: es) X.env = (false, eval e X.env) :: starEach es X.env := by rfl) (hpl : (backTo pos (starEach es X.env)).any (·.1) = false := by rfl) : QE X (.Call (.Name x p) (e :: es) [] pos) (tCB r t) := ⟨pe_callTy hc.h hg hm hv ha.h hn hdb he hpl⟩
theorem qe_bm0 {o : Expr} {to : TE} {name : Str} {apos cpos : Pos} {T id : String} {r : V → List V → Hp → VK → Prop} (pa : PlainAttrs T) (slot : Slot T name id) (hty : typeOf (.builtin id) = pure (.type "method_descriptor")) (hm : QMt X id r) (ho : QE X o to)
    (hbase : attributeBase o name X.env (eval o X.env) = eval o X.env := by rfl) (hline : (apos.endLine == cpos.line) = true := by rfl) : QE X (.Call (.Attribute o name apos) [] [] cpos) (tBM0 X.K T r to) := ⟨pe_bm0 pa slot hty hm.h ho.h hbase hline⟩
theorem qe_bm {o : Expr} {to : TE} {name : Str} {apos cpos : Pos} {T id : String} {r : V → List V → Hp → VK → Prop} {t : TA} (pa : PlainAttrs T) (slot : Slot T name id) (hty : typeOf (.builtin id) = pure (.type "method_descriptor")) (hm : QMt X id r) (ho : QE X o to) (ha : QA X (e :: es) t)
    (hbase : attributeBase o name X.env (eval o X.env) = eval o X.env := by rfl)
    (hfew : ((backTo cpos (starEach (e :: es) X.env)).all (fun x => !x.1) && (backToKw cpos (keywordEach [] X.env)).all (fun x => x.1.isSome)
      && decide ((e :: es).length + ([] : List Keyword).length + (if ([] : List Keyword).isEmpty then 0 else 1) < 30)) = true := by rfl)
    (hline : (apos.endLine == cpos.line) = true := by rfl) (hs : starEach (e :: es) X.env = (false, eval e X.env) :: starEach es X.env := by rfl) (hplain : (backTo cpos (starEach es X.env)).any (·.1) = false := by rfl) :
    QE X (.Call (.Attribute o name apos) (e :: es) [] cpos) (tBM X.K T r to t) := ⟨pe_bm pa slot hty hm.h ho.h ha.h hbase hfew hline hs hplain⟩
theorem qe_comp {n : Nat} {fr : List Nat} {N : List Str} {sc : Scope} {elt tg iter : Expr} {ifs : List Expr} {wi : TI} {g : TG} {tc : TT} (hc : X.calm = true) (S : CScope X n fr N sc) (hit : QI X tg iter wi)
    (hg : ∀ pins C s₀ H₀ fp, QG (cxComp X N sc pins C s₀ H₀ fp) tg g) (hi : ∀ pins C s₀ H₀ fp, QIfs (cxComp X N sc pins C s₀ H₀ fp) ifs tc) (he : ∀ pins C s₀ H₀ fp, QE (cxComp X N sc pins C s₀ H₀ fp) elt te)
    (hs : ∀ x, foldedSetIterable iter X.env x = pure x := by intro _; rfl) : QE X (.ListComp elt [⟨tg, iter, ifs, 0⟩] sc pos) (tComp wi n fr g tc te) :=
  ⟨pe_comp hc S hit.h (fun a b c d e => (hg a b c d e).h) (fun a b c d e => (hi a b c d e).h) (fun a b c d e' => (he a b c d e').h) hs⟩
theorem qs_setcomp {i : Nat} {pos' spos : Pos} {n : Nat} {fr : List Nat} {N : List Str} {sc : Scope} {elt tg iter : Expr} {ifs : List Expr} {wi : TI} {g : TG} {tc : TT} (hc : X.calm = true) (hN : X.N.Nodup) (hi' : X.N[i]? = some x) (hx : Loc X.env.scope x) (S : CScope X n fr N sc) (hit : QI X tg iter wi)
    (hg : ∀ pins C s₀ H₀ fp, QG (cxComp X N sc pins C s₀ H₀ fp) tg g) (hi : ∀ pins C s₀ H₀ fp, QIfs (cxComp X N sc pins C s₀ H₀ fp) ifs tc) (he : ∀ pins C s₀ H₀ fp, QE (cxComp X N sc pins C s₀ H₀ fp) elt te)
    (hsw : swapsWith (.ListComp elt [⟨tg, iter, ifs, 0⟩] sc pos) (some (.Name x pos')) spos.line X.env = pure true)
    (hs : ∀ x, foldedSetIterable iter X.env x = pure x := by intro _; rfl) (hf : X.fn x = true ∨ X.env.scope.names.lookup x = some .local := by first | exact .inl rfl | exact .inr rfl | assumption) :
    QS X (.Assign [.Name x pos'] (.ListComp elt [⟨tg, iter, ifs, 0⟩] sc pos) spos) (tAsg (tComp wi n fr g tc te) (gName i)) :=
  ⟨ps_setcomp hc hN hi' hx S hit.h (fun a b c d e => (hg a b c d e).h) (fun a b c d e => (hi a b c d e).h) (fun a b c d e' => (he a b c d e').h) hsw hs hf⟩
theorem qi_nil : QIfs X [] tTrue := ⟨pifs_nil⟩
theorem qi_list {tg l : Expr} {tl : TE} (hl : QE X l tl) : QI X tg l (iList X.K tl) := ⟨pi_list hl.h⟩
theorem qi_range1 {tg : Expr} {t : TA} (hg : Gl X "range") (hm : X.mg "range" = none) (ha : QA X [a] t) (hs : starEach [a] X.env = [(false, eval a X.env)] := by rfl) : QI X tg (.Call (.Name "range" p) [a] [] pos) (iRng1 t) := ⟨pi_range1 hg hm ha.h hs⟩
theorem qg_name {i : Nat} (hN : X.N.Nodup) (hi : X.N[i]? = some x) (hx : Loc X.env.scope x) (hf : X.fn x = true ∨ X.env.scope.names.lookup x = some .local := by first | exact .inl rfl | exact .inr rfl | assumption) : QG X (.Name x pos) (gName i) := ⟨pg_name hN hi hx hf⟩
theorem qgx {i : Nat} (hN : X.N.Nodup) (hx : X.env.scope.names.lookup x = some .local) (hi : X.N[i]? = some x := by rfl) : QG X (.Name x pos) (gName i) := ⟨pgx hN hx hi⟩
theorem qgs_nil : QGs X [] gNil := ⟨pgs_nil⟩
theorem qgs_cons {t : TG} {u : TGs} (h1 : QG X e t) (h2 : QGs X es u) (hs : (assignEach (e :: es) X.env).map (·.2) = assign e X.env :: (assignEach es X.env).map (·.2) := by rfl) : QGs X (e :: es) (gCons t u) := ⟨pgs_cons h1.h h2.h hs⟩
theorem qg_tup {k n : Nat} {t : TGs} (hc : X.calm = true) (h : QGs X es t) (hn : (assignEach es X.env).length = n := by rfl) (hst : (assignEach es X.env).findIdx? (·.1) = none := by rfl) : QG X (.Tuple es k pos) (gTup X.K n t) := ⟨pg_tup hc h.h hn hst⟩
theorem qg_sub {o i : Expr} {to ti : TE} {t : TSet} (ho : QE X o to) (hi : QE X i ti) (hs : QSet X t)
    (ha : ∀ v, assign (.Subscript o i pos) X.env v = (do
      let ov ← holding [v] (eval o X.env)
      let iv ← holding [v, ov] (eval i X.env)
      standAt pos
      holding [v, ov, iv] (setItem ov iv v)
      release [v, ov, iv] []) := by intro _; rfl) : QG X (.Subscript o i pos) (gSub to ti t) := ⟨pg_sub ho.h hi.h hs.h ha⟩
theorem qs_asg {tg : Expr} {g : TG} (he : QE X e te) (hg : QG X tg g) (hs : swapsWithSole [tg] e pos.line X.env = pure false := by rfl) (hw : swappedStores [tg] e X.env = pure none := by rfl)
    (h1 : (assignEach [tg] X.env).map (·.2) = [assign tg X.env] := by rfl) : QS X (.Assign [tg] e pos) (tAsg te g) := ⟨ps_asg he.h hg.h hs hw h1⟩
theorem qs_set {i : Nat} {pos' : Pos} (hN : X.N.Nodup) (hi : X.N[i]? = some x) (hx : Loc X.env.scope x) (he : QE X e te) (hs : swapsWith e (some (.Name x pos')) pos.line X.env = pure false := by rfl) (hf : X.fn x = true ∨ X.env.scope.names.lookup x = some .local := by first | exact .inl rfl | exact .inr rfl | assumption) :
    QS X (.Assign [.Name x pos'] e pos) (tAsg te (gName i)) := ⟨ps_set hN hi hx he.h hs hf⟩
theorem qs_dput {o i v : Expr} {td ty tv : TE} {pos' : Pos} (hu : X.A.units + 1 < cLine) (ho : QE X o td) (hi : QE X i ty) (hv : QE X v tv) (hs : swapsWith v (some (.Subscript o i pos')) pos.line X.env = pure false := by rfl) : QS X (.Assign [.Subscript o i pos'] v pos) (sDPut td ty tv) := ⟨ps_dput hu ho.h hi.h hv.h hs⟩
theorem qs_expr (he : QE X e te) (hs : swapsWith e none pos.line X.env = pure false := by rfl) : QS X (.Expr e pos) (tDrop te) := ⟨ps_expr he.h hs⟩
theorem qs_ret (he : QE X e te) : QS X (.Return (some e) pos) (tRet te) := ⟨ps_ret he.h⟩
theorem qs_if {s1 s2 : List Stmt} {t u : TS} (hc : QT X c tA) (ha : QSs X s1 t) (hb : QSs X s2 u) : QS X (.If c s1 s2 pos) (tIfS tA t u) := ⟨ps_if hc.h ha.h hb.h⟩
theorem qs_while {body : List Stmt} {tb : TS} (hp : PassesOwn (model X.prog X.w) X.A X.env X.xe) (hc : QT X c tA) (hb : QSs X body tb) : QS X (.While c body [] pos) (tWhile tA tb) := ⟨ps_while hp hc.h hb.h⟩
theorem qs_for {tg iter : Expr} {body : List Stmt} {wi : TI} {g : TG} {tb : TS} (hp : PassesOwn (model X.prog X.w) X.A X.env X.xe) (hc : X.calm = true) (hi : QI X tg iter wi) (hg : QG X tg g) (hb : QSs X body tb)
    (hs : ∀ x, foldedSetIterable iter X.env x = pure x := by intro _; rfl) : QS X (.For tg iter body [] pos) (tFor wi g tb) := ⟨ps_for hp hc hi.h hg.h hb.h hs⟩
theorem qss_nil : QSs X [] tNext := ⟨pss_nil⟩
theorem qss_cons {s : Stmt} {rest : List Stmt} {t u : TS} (h1 : QS X s t) (h2 : QSs X rest u) : QSs X (s :: rest) (tSeq t u) := ⟨pss_cons h1.h h2.h⟩
theorem qss_one {s : Stmt} {t : TS} (h1 : QS X s t) : QSs X [s] t := ⟨pss_one h1.h⟩
theorem qop_add : QOp X (binaryOp .Add) (rI0 fun i j => .int (i + j)) := ⟨op_add⟩
theorem qop_sub : QOp X (binaryOp .Sub) (rI0 fun i j => .int (i - j)) := ⟨op_sub⟩
theorem qop_mul : QOp X (binaryOp .Mult) (rI CMul fun i j => .int (i * j)) := ⟨op_mul⟩
theorem qop_mod : QOp X (binaryOp .Mod) (rI (fun _ j => 0 < j) fun i j => .int (i % j)) := ⟨op_mod⟩
theorem qop_fdiv : QOp X (binaryOp .FloorDiv) (rI CDivB fun i j => .int (i / j)) := ⟨op_fdivB⟩
theorem qop_pow : QOp X (binaryOp .Pow) (rI CPow fun i j => .int (i ^ j.toNat)) := ⟨op_pow⟩
theorem qop_cat : QOp X (binaryOp .Add) rCat := ⟨op_cat⟩
theorem qun_neg : QUn X (unaryOp .USub) (rU fun i => .int (-i)) := ⟨un_neg⟩
theorem qop_eq : QOp X (compareOp .Eq) rEq := ⟨op_eq⟩
theorem qop_ne : QOp X (compareOp .NotEq) rNe := ⟨op_ne⟩
theorem qop_lt : QOp X (compareOp .Lt) (rI0 fun i j => .bl (decide (i < j))) := ⟨op_lt⟩
theorem qop_gt : QOp X (compareOp .Gt) (rI0 fun i j => .bl (decide (j < i))) := ⟨op_gt⟩
theorem qop_ge : QOp X (compareOp .GtE) (rI0 fun i j => .bl (decide (j ≤ i))) := ⟨op_ge⟩
theorem qop_isN : QOp X (compareOp .Is) (fun x y H Q => y = .non ∧ Q (.bl (decide (x = .non))) H) := ⟨op_isN⟩
theorem qop_notN : QOp X (compareOp .IsNot) (fun x y H Q => y = .non ∧ Q (.bl (!decide (x = .non))) H) := ⟨op_notN⟩
theorem qop_eqD (hu : X.A.units + 64 < cLine) : QOp X (compareOp .Eq) (rEqD X.K false) := ⟨op_eqD hu⟩
theorem qop_neD (hu : X.A.units + 64 < cLine) : QOp X (compareOp .NotEq) (rEqD X.K true) := ⟨op_neD hu⟩
theorem qix_list : QIx X (rIxL X.K) := ⟨ix_list⟩
theorem qix_tup : QIx X (rIxT X.K) := ⟨ix_tup⟩
theorem qix_str : QIx X rIxS := ⟨ix_str⟩
theorem qsl_list : QSl X (rSlL X.K) := ⟨sl_list⟩
theorem qset_list : QSet X rSetL := ⟨set_list⟩
theorem qmt_append : QMt X "list.append" rAppend := ⟨mt_append⟩
theorem qmt_extend : QMt X "list.extend" rExtend := ⟨mt_extend⟩
theorem qmt_pop : QMt X "list.pop" rPop := ⟨mt_pop⟩
theorem qmt_join : QMt X "str.join" (rJoin X.K) := ⟨mt_join⟩
theorem qc_len_seq : QCall X (.builtin "len") (fun xs H Q => ∃ p ys, xs = [.ref p] ∧ (SqL X.K H p ys ∨ SqT X.K H p ys) ∧ Q (.int ys.length) H) := ⟨call_len_seq⟩
theorem qc_isi : QCall X (.builtin "isinstance") (fun xs H Q => ∃ x T t b, xs = [x, .ty T] ∧ TyOf X.K H x t ∧ PySem.W.kitOne X.K t (.type T) = some b ∧ Q (.bl b) H) := ⟨call_isi⟩
theorem qc_intB : QCall X (.type "int") (fun xs H Q => ∃ k, xs = [.bl k] ∧ Q (.int (if k then 1 else 0)) H) := ⟨fun pins s σ H xs us Q I r h => call_int1 pins s σ H xs us Q I r (.inr h)⟩
theorem qc_list_of : QCall X (.type "list") (fun xs H Q => ∃ p ys, xs = [.ref p] ∧ (SqL X.K H p ys ∨ SqT X.K H p ys) ∧ ∀ l, H l = none → Q (.ref l) (upd H l (.lst ys))) := ⟨call_list_of⟩
theorem qc_tuple_of : QCall X (.type "tuple") (fun xs H Q => ∃ p ys, xs = [.ref p] ∧ SqL X.K H p ys ∧ ∀ l, H l = none → Q (.ref l) (upd H l (.tup ys))) := ⟨fun pins s σ H xs us Q I r h => call_tuple_of pins s σ H xs us Q I r (let ⟨p, ys, e, hs, q⟩ := h; ⟨p, ys, e, .inl ⟨hs, q⟩⟩)⟩
theorem nomarkQ (b : Expr) {op : CmpOp} (h : op ≠ .In := by decide) (h2 : op ≠ .NotIn := by decide) : behindInMarks op b = false := nomark b h h2
/-! ### .. with the written part named (for a comprehension's block) -/
theorem qix_listK {K : PySem.W.Frag} (e : X.K = K) : QIx X (rIxL K) := e ▸ qix_list
theorem qix_tupK {K : PySem.W.Frag} (e : X.K = K) : QIx X (rIxT K) := e ▸ qix_tup
theorem qc_len_seqK {K : PySem.W.Frag} (e : X.K = K) : QCall X (.builtin "len") (fun xs H Q => ∃ p ys, xs = [.ref p] ∧ (SqL K H p ys ∨ SqT K H p ys) ∧ Q (.int ys.length) H) := e ▸ qc_len_seq
end
end L2

set_option maxRecDepth 100000
namespace L2
open PySem PySem.Spec PyProof.Rows

/-! ### the signs of a text, walked -/

/-! ### all, sum -/

/-! ### a tuple, n times -/
/-! ### wrappers -/
section
variable {X : Cx} {a b c e : Expr} {ta tb tc te : TE} {pos : Pos}
end
end L2

set_option maxRecDepth 100000
namespace RB
open PySem L2 PySem.Spec PyProof.Rows

/-! ### heaps that keep what stands -/
/-- all but S is kept -/
noncomputable def But (S : List Addr) (H H' : Hp) : Prop := ∀ b o, b ∉ S → H b = some o → H' b = some o
theorem But.refl (S : List Addr) (H : Hp) : But S H H := fun _ _ _ h => h
theorem But.trans {S : List Addr} {H H1 H2 : Hp} (a : But S H H1) (b : But S H1 H2) : But S H H2 := fun c o n h => b c o n (a c o n h)
theorem But.new {S : List Addr} {H : Hp} {p : Addr} (o : HO) (h : H p = none) : But S H (upd H p o) := fun b u _ q => by rw [upd_ne (ne_of_none q h)]; exact q
theorem But.set {S : List Addr} {H : Hp} {p : Addr} (o : HO) (h : p ∈ S) : But S H (upd H p o) := fun b u n q => by rw [upd_ne (show b ≠ p from fun e => n (by rw [e]; exact h))]; exact q
theorem But.of_same {S : List Addr} {H H' : Hp} (h : Same H H') : But S H H' := fun b o _ q => h b o q
theorem same_new {H : Hp} {p : Addr} (o : HO) (h : H p = none) : Same H (upd H p o) := fun b u q => by rw [upd_ne (ne_of_none q h)]; exact q
/-- tuples are kept -/
noncomputable def Tups (H H' : Hp) : Prop := ∀ b xs, H b = some (.tup xs) → H' b = some (.tup xs)
theorem Same.tups {H H' : Hp} (h : Same H H') : Tups H H' := fun b xs q => h b _ q

/-! ### recipes -/
inductive Op where | plus | minus | times | most
  deriving DecidableEq
noncomputable def Op.word : Op → Str
  | .plus => "plus" | .minus => "minus" | .times => "times" | .most => "most"
inductive R where
  | num (n : Int) | rd (x : Str) | bin (op : Op) (a b : R) | pick (a b c : R) | cho (a : R) (ns : List Str)
noncomputable def R.depth : R → Nat
  | .num _ => 1
  | .rd _ => 1
  | .bin _ a b => max a.depth b.depth + 1
  | .pick a b c => max a.depth (max b.depth c.depth) + 1
  | .cho a _ => a.depth + 1
noncomputable def isLow (c : Nat) : Prop := 97 ≤ c ∧ c ≤ 122
noncomputable def GName (x : Str) : Prop := 1 ≤ x.length ∧ x.length ≤ 8 ∧ ∀ c ∈ x.cps.toList, isLow c
noncomputable def R.Good : R → Prop
  | .num n => n.natAbs < 10 ^ 40
  | .rd x => GName x
  | .bin _ a b => a.Good ∧ b.Good
  | .pick a b c => a.Good ∧ b.Good ∧ c.Good
  | .cho a ns => a.Good ∧ 1 ≤ ns.length ∧ ns.length ≤ 9 ∧ ∀ x ∈ ns, GName x
inductive IsR (H : Hp) : Addr → R → Prop where
  | num {a : Addr} {n : Int} (e : H a = some (.tup [.str "number", .int n])) : IsR H a (.num n)
  | rd {a : Addr} {x : Str} (e : H a = some (.tup [.str "read", .str x])) : IsR H a (.rd x)
  | bin {a b c : Addr} {op : Op} {r s : R} (e : H a = some (.tup [.str op.word, .ref b, .ref c])) (h1 : IsR H b r) (h2 : IsR H c s) : IsR H a (.bin op r s)
  | pick {a b c d : Addr} {r s t : R} (e : H a = some (.tup [.str "pick", .ref b, .ref c, .ref d])) (h1 : IsR H b r) (h2 : IsR H c s) (h3 : IsR H d t) : IsR H a (.pick r s t)
  | cho {a b c : Addr} {r : R} {ns : List Str} (e : H a = some (.tup [.str "choose", .ref b, .ref c])) (h1 : IsR H b r) (h2 : H c = some (.tup (ns.map V.str))) : IsR H a (.cho r ns)
theorem IsR.tups {H H' : Hp} (t : Tups H H') {a : Addr} {r : R} (h : IsR H a r) : IsR H' a r := by
  induction h with
  | num e => exact .num (t _ _ e)
  | rd e => exact .rd (t _ _ e)
  | bin e _ _ i1 i2 => exact .bin (t _ _ e) i1 i2
  | pick e _ _ _ i1 i2 i3 => exact .pick (t _ _ e) i1 i2 i3
  | cho e _ h2 i1 => exact .cho (t _ _ e) i1 (t _ _ h2)
theorem IsR.same {H H' : Hp} (t : Same H H') {a : Addr} {r : R} (h : IsR H a r) : IsR H' a r := h.tups (Same.tups t)
theorem R.depth_pos (r : R) : 1 ≤ r.depth := by cases r <;> simp [R.depth]


theorem joinOk {sep : Str} {ns : List Str} {k : Nat} (h : ∀ x ∈ ns, x.length ≤ k) (h2 : ns.length * k + ns.length * sep.length ≤ 16777216) : JoinOk sep ns = true := by
  have q := StrLaws.joinFits (sep := sep) (texts := ns) (B := k) h h2
  unfold JoinOk
  rw [q]; rfl

/-! ### decks -/
/-- law(script) is True -/
noncomputable def spLaw (K : PySem.W.Frag) : Sp := fun vs H Q _ => ∃ (a : Addr) (ns : List Int), vs = [.ref a] ∧ SqL K H a (ns.map V.int) ∧ ns.length ≤ 63 ∧ ∀ H', Q (.bl true) H'

/-! ### a def of the text -/
structure FnT (K : PySem.W.Frag) (mg : Str → Option Value) (x : Str) (st : Stmt) (ps : List Str) (f : Addr) (fd : FuncData) : Prop where
  F : Fun K x x st f fd
  b : Binds K fd ps []
  m : mg x = some (.ref f)
/-- none of these is a name of the text's own -/
structure Blt (mg : Str → Option Value) : Prop where
  b_len : mg "len" = none
  b_range : mg "range" = none
  b_str : mg "str" = none
  b_int : mg "int" = none
  b_list : mg "list" = none
  b_tuple : mg "tuple" = none
  b_isinstance : mg "isinstance" = none
  b_bool : mg "bool" = none
  b_dict : mg "dict" = none
  b_sum : mg "sum" = none
  b_all : mg "all" = none
  b_any : mg "any" = none
  b_max : mg "max" = none
  b_min : mg "min" = none
  b_sorted : mg "sorted" = none
  b_set : mg "set" = none
  b_enumerate : mg "enumerate" = none
  b_zip : mg "zip" = none
  b_reversed : mg "reversed" = none
  b_abs : mg "abs" = none
end RB
namespace RB
open PySem L2 PySem.Spec PyProof.Rows
theorem at_ok {xs : List Int} {i : Int} (h0 : 0 ≤ i) (h1 : i < ((xs.map V.int).length : Int)) : ∃ v j, atI (xs.map V.int) i = some (.int v) ∧ ixN (xs.map V.int).length i = some j ∧ j < xs.length ∧ ∀ u : Int, (xs.map V.int).set j (.int u) = (xs.set j u).map V.int := by
  have hl : (xs.map V.int).length = xs.length := List.length_map _
  obtain ⟨j, rfl⟩ := Int.eq_ofNat_of_zero_le h0
  have hj : j < xs.length := by omega
  refine ⟨xs[j], j, atI_nat (by rw [List.getElem?_map, List.getElem?_eq_getElem hj]; rfl), ?_, hj, fun u => ?_⟩
  · unfold ixN
    rw [if_pos h0, if_pos (by omega)]
    simp
  · rw [List.map_set]
end RB
namespace RB
open PySem L2 PySem.Spec PyProof.Rows
theorem But.upd {S : List Addr} {H H' : Hp} {p : Addr} (b : But S H H') (o : HO) (h : H p = none) : But S H (upd H' p o) := fun c u n q => by
  rw [upd_ne (ne_of_none q h)]; exact b c u n q
theorem letters_cps : (Str.ofString "abcdefghijklmnopqrstuvwxyz").cps.toList = (List.range 26).map (· + 97) := by decide +kernel
theorem letter {n : Int} (h0 : 0 ≤ n) (h1 : n < 26) : ∃ c, atI (Str.ofString "abcdefghijklmnopqrstuvwxyz").cps.toList n = some c ∧ isLow c := by
  obtain ⟨j, rfl⟩ := Int.eq_ofNat_of_zero_le h0
  refine ⟨j + 97, atI_nat ?_, ?_⟩
  · rw [letters_cps, List.getElem?_map, List.getElem?_range (by omega)]; rfl
  · unfold isLow; omega
theorem join_empty : ∀ ts : List Str, (Txt.join "" ts).cps.toList = (ts.map fun x => x.cps.toList).flatten := by
  intro ts
  have e : Txt.join "" ts = Str.join "" ts := StrLaws.glued_eq_join "" ts
  rw [e]
  induction ts with
  | nil => rfl
  | cons x r ih =>
    cases r with
    | nil => simp [Str.join]
    | cons y r =>
      show ((x.cps ++ ("" : Str).cps) ++ (Str.join "" (y :: r)).cps).toList = _
      rw [Array.toList_append, Array.toList_append, ih (StrLaws.glued_eq_join "" (y :: r))]
      have z : ("" : Str).cps.toList = [] := by decide +kernel
      rw [z]; simp
noncomputable def OneLow (x : Str) : Prop := ∃ c, x = ⟨#[c]⟩ ∧ isLow c
theorem join_name {ts : List Str} (h : ∀ x ∈ ts, OneLow x) (h1 : 1 ≤ ts.length) (h2 : ts.length ≤ 8) : GName (Txt.join "" ts) := by
  have q : ∀ l : List Str, (∀ x ∈ l, OneLow x) → ((l.map fun x => x.cps.toList).flatten).length = l.length ∧ ∀ c ∈ (l.map fun x => x.cps.toList).flatten, isLow c := by
    intro l
    induction l with
    | nil => intro _; simp
    | cons x r ih =>
      intro hl
      obtain ⟨c, rfl, hc⟩ := hl x List.mem_cons_self
      obtain ⟨i1, i2⟩ := ih fun y hy => hl y (List.mem_cons_of_mem _ hy)
      constructor
      · rw [List.map_cons, List.flatten_cons, List.length_append, i1, List.length_cons]
        show 1 + r.length = r.length + 1
        omega
      · intro c' hc'
        rw [List.map_cons, List.flatten_cons, List.mem_append] at hc'
        rcases hc' with z | z
        · have : c' = c := by simpa using z
          rw [this]; exact hc
        · exact i2 c' z
  obtain ⟨a, b⟩ := q ts h
  have hl : (Txt.join "" ts).length = ts.length := by
    rw [← a, ← join_empty]; simp [Str.length]
  refine ⟨by omega, by omega, fun c hc => ?_⟩
  rw [join_empty] at hc
  exact b c hc
theorem itD_t {c A B : Prop} [Decidable c] (hc : c) (h : A) : if decide c = true then A else B := by rw [if_pos (decide_eq_true hc)]; exact h
theorem itD_f {c A B : Prop} [Decidable c] (hc : ¬ c) (h : B) : if decide c = true then A else B := by rw [if_neg (by simpa using hc)]; exact h
theorem itN_t {c A B : Prop} [Decidable c] (hc : ¬ c) (h : A) : if (!decide c) = true then A else B := by rw [if_pos (by simpa using hc)]; exact h
theorem itN_f {c A B : Prop} [Decidable c] (hc : c) (h : B) : if (!decide c) = true then A else B := by rw [if_neg (by simpa using hc)]; exact h
end RB

namespace RB
open PySem L2 PySem.Spec PyProof.Rows
theorem never {P : Program} {w : World} {K : PySem.W.Frag} {mg : Str → Option Value} {base : Heap} {k : Nat} {f : Addr} {fd : FuncData} {ps : List Str} {sp : Sp} (no : ∀ vs H Q E, ¬ sp vs H Q E) : FnOk P w K mg base CX0 k f fd ps sp :=
  ⟨fun vs H Q E h => absurd h (no vs H Q E), fun A outer s H args us vs Q E _ _ _ _ h => absurd h (no vs H Q E)⟩
end RB
namespace RB
open PySem L2 PySem.Spec PyProof.Rows
end RB
namespace RB
open PySem L2 PySem.Spec PyProof.Rows
theorem shaped_ints (ns : List Int) : SeqAt.shaped (.list (ns.map PyData.int)) = true := by
  simp [SeqAt.shaped, PyData.canLay0, PyData.canLayAll0, PyData.depth, PyData.depthAll, PySem.W.ke_canLayAll0, PySem.W.ke_depthAll]
end RB
namespace RB
open PySem L2 PySem.Spec PyProof.Rows
end RB
namespace RB
open PySem L2 PySem.Spec PyProof.Rows
theorem tups_set {H : Hp} {p : Addr} {xs : List V} (o : HO) (h : H p = some (.lst xs)) : Tups H (upd H p o) := fun b ys q => by
  rw [upd_ne (ne_of q h (by intro z; cases z))]; exact q
theorem same_updN {H H' : Hp} {p : Addr} (o : HO) (h : H p = none) (s : Same H H') : Same H (upd H' p o) := fun b u q => by
  rw [upd_ne (ne_of_none q h)]; exact s b u q
end RB
namespace RB
open PySem L2 PySem.Spec PyProof.Rows
end RB

set_option maxRecDepth 100000
namespace RB
open PySem L2 PySem.Spec PyProof.Rows

/-! ### any thing, and whether it is a recipe -/

/-! ### contracts -/
/-- an invariant that the stepping leaves alone -/
structure Wr (p : Prop) : Prop where
  h : p
end RB

set_option maxRecDepth 100000
namespace RB
open PySem L2 PySem.Spec PyProof.Rows
/-! ### recipes whose read names may be none -/
theorem depth_strs : ∀ l : List Str, PyData.depthAll (l.map PyData.str) ≤ 1
  | [] => by simp [PyData.depthAll]
  | c :: r => by
    have := depth_strs r
    simp [PyData.depthAll, PyData.depth]
    omega
end RB

set_option maxRecDepth 100000
namespace L2
open PySem PySem.Spec PyProof.Rows
theorem Fun.okQ {P : Program} {w : World} {K : PySem.W.Frag} {mg : Str → Option Value} {base : Heap} {x qual : Str} {st : Stmt} {f : Addr} {fd : FuncData} {N ps : List Str} {k : Nat} {sp : Sp} (F : Fun K x qual st f fd) (S : FnScope N ps (defScope st)) (len : ∀ vs H Q E, sp vs H Q E → vs.length = ps.length)
    (hbody : ∀ (cdv : Value) (A : Around) (outer : List Env) (s : Shared) (H : Hp) (vs : List V) (Q : VK) (E : XK), Room k (A.deeper (envOfC qual (defScope st) s.heap.objs.size f cdv)) → sp vs H Q E →
      ∃ t, QSs (cxOf CX0 P w K mg base N qual (defScope st) f cdv A outer s H E).nox (defBody st) t ∧ t { nx := fun _ H' => Q .non H', rt := Q } (start N vs) H) : FnOk P w K mg base CX0 (k + 1) f fd ps sp :=
  F.ok S len fun cdv A outer s H vs Q E hr hsp => let ⟨t, a, b⟩ := hbody cdv A outer s H vs Q E hr hsp; ⟨t, a.h, b⟩
end L2
namespace RB
open PySem L2 PySem.Spec PyProof.Rows
/-! ### the parts of a display or a call, by their kinds: the star's row is not reckoned anew for each -/
theorem star_C (value : Const) (k : Nat) (p : Pos) (es : List Expr) (env : Env) : starEach (.Constant value k p :: es) env = (false, eval (.Constant value k p) env) :: starEach es env := rfl
theorem qa_C {X : Cx} {value : Const} {k : Nat} {p : Pos} {es : List Expr} {te : TE} {t : TA} (ha : QE X (.Constant value k p) te) (hr : QA X es t) : QA X (.Constant value k p :: es) (tCons te t) := qa_cons ha hr (star_C value k p _ _)
theorem star_N (x : Str) (p : Pos) (es : List Expr) (env : Env) : starEach (.Name x p :: es) env = (false, eval (.Name x p) env) :: starEach es env := rfl
theorem qa_N {X : Cx} {x : Str} {p : Pos} {es : List Expr} {te : TE} {t : TA} (ha : QE X (.Name x p) te) (hr : QA X es t) : QA X (.Name x p :: es) (tCons te t) := qa_cons ha hr (star_N x p _ _)
theorem star_B (a : Expr) (op : Operator) (b : Expr) (p : Pos) (es : List Expr) (env : Env) : starEach (.BinOp a op b p :: es) env = (false, eval (.BinOp a op b p) env) :: starEach es env := rfl
theorem qa_B {X : Cx} {a : Expr} {op : Operator} {b : Expr} {p : Pos} {es : List Expr} {te : TE} {t : TA} (ha : QE X (.BinOp a op b p) te) (hr : QA X es t) : QA X (.BinOp a op b p :: es) (tCons te t) := qa_cons ha hr (star_B a op b p _ _)
theorem star_U (op : UnaryOp) (a : Expr) (p : Pos) (es : List Expr) (env : Env) : starEach (.UnaryOp op a p :: es) env = (false, eval (.UnaryOp op a p) env) :: starEach es env := rfl
theorem qa_U {X : Cx} {op : UnaryOp} {a : Expr} {p : Pos} {es : List Expr} {te : TE} {t : TA} (ha : QE X (.UnaryOp op a p) te) (hr : QA X es t) : QA X (.UnaryOp op a p :: es) (tCons te t) := qa_cons ha hr (star_U op a p _ _)
theorem star_K (a : Expr) (ops : List CmpOp) (cs : List Expr) (p : Pos) (es : List Expr) (env : Env) : starEach (.Compare a ops cs p :: es) env = (false, eval (.Compare a ops cs p) env) :: starEach es env := rfl
theorem qa_K {X : Cx} {a : Expr} {ops : List CmpOp} {cs : List Expr} {p : Pos} {es : List Expr} {te : TE} {t : TA} (ha : QE X (.Compare a ops cs p) te) (hr : QA X es t) : QA X (.Compare a ops cs p :: es) (tCons te t) := qa_cons ha hr (star_K a ops cs p _ _)
theorem star_T (xs : List Expr) (k : Nat) (p : Pos) (es : List Expr) (env : Env) : starEach (.Tuple xs k p :: es) env = (false, eval (.Tuple xs k p) env) :: starEach es env := rfl
theorem qa_T {X : Cx} {xs : List Expr} {k : Nat} {p : Pos} {es : List Expr} {te : TE} {t : TA} (ha : QE X (.Tuple xs k p) te) (hr : QA X es t) : QA X (.Tuple xs k p :: es) (tCons te t) := qa_cons ha hr (star_T xs k p _ _)
theorem star_L (xs : List Expr) (p : Pos) (es : List Expr) (env : Env) : starEach (.List xs p :: es) env = (false, eval (.List xs p) env) :: starEach es env := rfl
theorem qa_L {X : Cx} {xs : List Expr} {p : Pos} {es : List Expr} {te : TE} {t : TA} (ha : QE X (.List xs p) te) (hr : QA X es t) : QA X (.List xs p :: es) (tCons te t) := qa_cons ha hr (star_L xs p _ _)
theorem star_S (a b : Expr) (p : Pos) (es : List Expr) (env : Env) : starEach (.Subscript a b p :: es) env = (false, eval (.Subscript a b p) env) :: starEach es env := rfl
theorem qa_S {X : Cx} {a b : Expr} {p : Pos} {es : List Expr} {te : TE} {t : TA} (ha : QE X (.Subscript a b p) te) (hr : QA X es t) : QA X (.Subscript a b p :: es) (tCons te t) := qa_cons ha hr (star_S a b p _ _)
theorem star_F (f : Expr) (xs : List Expr) (ks : List Keyword) (p : Pos) (es : List Expr) (env : Env) : starEach (.Call f xs ks p :: es) env = (false, eval (.Call f xs ks p) env) :: starEach es env := rfl
theorem qa_F {X : Cx} {f : Expr} {xs : List Expr} {ks : List Keyword} {p : Pos} {es : List Expr} {te : TE} {t : TA} (ha : QE X (.Call f xs ks p) te) (hr : QA X es t) : QA X (.Call f xs ks p :: es) (tCons te t) := qa_cons ha hr (star_F f xs ks p _ _)
theorem star_I (a b c : Expr) (p : Pos) (es : List Expr) (env : Env) : starEach (.IfExp a b c p :: es) env = (false, eval (.IfExp a b c p) env) :: starEach es env := rfl
theorem qa_I {X : Cx} {a b c : Expr} {p : Pos} {es : List Expr} {te : TE} {t : TA} (ha : QE X (.IfExp a b c p) te) (hr : QA X es t) : QA X (.IfExp a b c p :: es) (tCons te t) := qa_cons ha hr (star_I a b c p _ _)
theorem star_M (e : Expr) (gs : List Comprehension) (sc : Scope) (p : Pos) (es : List Expr) (env : Env) : starEach (.ListComp e gs sc p :: es) env = (false, eval (.ListComp e gs sc p) env) :: starEach es env := rfl
theorem qa_M {X : Cx} {e : Expr} {gs : List Comprehension} {sc : Scope} {p : Pos} {es : List Expr} {te : TE} {t : TA} (ha : QE X (.ListComp e gs sc p) te) (hr : QA X es t) : QA X (.ListComp e gs sc p :: es) (tCons te t) := qa_cons ha hr (star_M e gs sc p _ _)
end RB

set_option maxRecDepth 100000
namespace RB
open PySem L2 PySem.Spec PyProof.Rows
/-! ### a list held against [] -/
noncomputable def rEqNil (K : PySem.W.Frag) : R2 := fun x y H Q => ∃ a b xs, x = .ref a ∧ y = .ref b ∧ SqL K H a xs ∧ SqL K H b [] ∧ Q (.bl xs.isEmpty) H
theorem op_eqNil {X : Cx} (hu : X.A.units + 64 < cLine) : OpR X (compareOp .Eq) (rEqNil X.K) := by
  intro pins s σ H x y v u Q I rx ry h
  obtain ⟨a, b, xs, rfl, rfl, ha, hb, q⟩ := h
  cases xs with
  | nil => exact op_eqD hu pins s σ H _ _ v u Q I rx ry ⟨.list [], .list [], .lst ha .nil, .lst hb .nil, shaped_ints [], shaped_ints [], q⟩
  | cons x r =>
    cases rx
    cases ry
    obtain ⟨its, rv, pl, _⟩ := I.list ha
    obtain ⟨its', rv', pl', _⟩ := I.list hb
    cases rv
    cases rv'
    exact PySem.SeqAt.eq_list_lengthsAt pl.isList pl'.isList rfl (by omega) ⟨.bl false, H, I, rfl, q⟩
theorem qop_eqNil {X : Cx} (hu : X.A.units + 64 < cLine) : QOp X (compareOp .Eq) (rEqNil X.K) := ⟨op_eqNil hu⟩
theorem qe_dnewK {X : Cx} {pos : Pos} : QE X (.Dict [] [] pos) tDNewK := ⟨pe_dnewK⟩

/-! ### things whose texts are short and plain -/

/-! ### things while the lists at S may be changed -/

/-! ### how many recipes -/
/-! ### contracts of the law's own words over any thing -/
end RB

set_option maxRecDepth 100000
namespace L2
open PySem PySem.Spec PyProof.Rows
section
variable {X : Cx} {pins : List (Addr × Obj)} {σ : L2.St} {H : Hp} {s : Shared}
/-! ### texts: startswith from a place, a slice, the number that is written -/
noncomputable def rSlS : V → Option Int → Option Int → Hp → VK → Prop := fun x lo hi H Q => ∃ t, x = .str t ∧ t.length ≤ sizeLine ∧ Q (.str (Txt.slice t lo hi)) H
theorem sl_str : SlR X rSlS := by
  intro pins s σ H x v vl vu lo hi sl Q I rx hs pl pu h
  obtain ⟨t, rfl, hz, q⟩ := h
  obtain ⟨k, rfl⟩ := rx
  refine ⟨"str", _, F.slot_str_getitem.lookup, typeIs_str _ _ _, ?_⟩
  cases pl with
  | none =>
    cases pu with
    | none => exact wpAny_getItem_str_slice (l := none) (u := none) (st := none) hs rfl (post_val_or_str ⟨Nat.le_trans (Txt.slice_le t _ _) hz, fun t' k => ⟨.str _, H, I.tok k, ⟨t', rfl⟩, q⟩⟩)
    | int j uj => exact wpAny_getItem_str_slice (l := none) (u := some (j, uj)) (st := none) hs rfl (post_val_or_str ⟨Nat.le_trans (Txt.slice_le t _ _) hz, fun t' k => ⟨.str _, H, I.tok k, ⟨t', rfl⟩, q⟩⟩)
  | int i ui =>
    cases pu with
    | none => exact wpAny_getItem_str_slice (l := some (i, ui)) (u := none) (st := none) hs rfl (post_val_or_str ⟨Nat.le_trans (Txt.slice_le t _ _) hz, fun t' k => ⟨.str _, H, I.tok k, ⟨t', rfl⟩, q⟩⟩)
    | int j uj => exact wpAny_getItem_str_slice (l := some (i, ui)) (u := some (j, uj)) (st := none) hs rfl (post_val_or_str ⟨Nat.le_trans (Txt.slice_le t _ _) hz, fun t' k => ⟨.str _, H, I.tok k, ⟨t', rfl⟩, q⟩⟩)
theorem qsl_str : QSl X rSlS := ⟨sl_str⟩
end
/-! ### own objects -/
section
variable {X : Cx} {o e value : Expr} {es : List Expr} {f m : Str} {pos pos' apos : Pos} {ta tv : TE} {t : TA} {C fa : Addr} {CX : CXT} {k : Nat} {fd : FuncData} {ps : List Str} {sp : Sp} {dvs : List V} {ds : List Value} {E : XK}
theorem qe_fld (he : QE X e ta) (hb : attributeBase e f X.env (eval e X.env) = eval e X.env := by rfl) : QE X (.Attribute e f pos) (tFld X.K ta f) := ⟨pe_fld he.h hb⟩
theorem qs_fld (ha : QE X o ta) (hv : QE X value tv) (hs : swapsWith value (some (.Attribute o f pos')) pos.line X.env = pure false := by rfl) : QS X (.Assign [.Attribute o f pos'] value pos) (sFld X.K ta tv f) := ⟨ps_fld ha.h hv.h hs⟩
theorem qe_meth {pl : Sem Bool} (he : QE X o ta) (c : Cls X.K C) (hm : Meth X.K C m fa) (F : FnOk X.prog X.w X.K X.mg X.base CX k fa fd ps sp) (hr : Room k X.A) (hb : Binds X.K fd ps ds) (hd : Vals dvs ds) (hx : Passes CX X E) (ha : QA X (e :: es) t)
    (hst : starEach (e :: es) X.env = (false, eval e X.env) :: starEach es X.env := by rfl) (hpl : (backTo pos (starEach es X.env)).any (·.1) = false := by rfl)
    (ht : eval (.Call (.Attribute o m apos) (e :: es) [] pos) X.env = (do
      let ov ← eval o X.env
      standAt apos.atName
      let (f, first) ← holding [ov] (getMethod ov m pl)
      callWith pos f first (backTo pos (starEach (e :: es) X.env)) (backToKw pos (keywordEach [] X.env))) := by rfl) :
    QE X (.Call (.Attribute o m apos) (e :: es) [] pos) (tMeth C m sp dvs E ta t) := ⟨pe_meth he.h c hm F hr hb hd hx ha.h hst hpl ht⟩
theorem qe_make {x : Str} {p : Pos} (M : Mk X.K C fa) (F : FnOk X.prog X.w X.K X.mg X.base CX k fa fd ps sp) (hr : Room (k + 1) X.A) (hg : Gl X x) (hm : X.mg x = some (.ref C)) (hb : Binds X.K fd ps ds) (hd : Vals dvs ds) (hx : Passes CX X E)
    (ha : QA X (e :: es) t) (hdb : (x == ("__debug__" : Str)) = false := by decide) (he : starEach (e :: es) X.env = (false, eval e X.env) :: starEach es X.env := by rfl) (hpl : (backTo pos (starEach es X.env)).any (·.1) = false := by rfl) :
    QE X (.Call (.Name x p) (e :: es) [] pos) (tMake C sp dvs E t) := ⟨pe_make M F hr hg hm hb hd hx ha.h hdb he hpl⟩
end
end L2

set_option maxRecDepth 100000
namespace RB
open PySem L2 PySem.Spec PyProof.Rows
/-! ### a reader: its text and its place -/
theorem slice_nat {T : Str} {i j : Nat} (h : i ≤ j) (hj : j ≤ T.length) : Txt.slice T (some (i : Int)) (some (j : Int)) = ⟨((T.cps.toList.drop i).take (j - i)).toArray⟩ := StrLaws.sliceText_nat T h hj
structure MthT (K : PySem.W.Frag) (C : Addr) (x qual : Str) (st : Stmt) (ps : List Str) (f : Addr) (fd : FuncData) : Prop where
  F : Fun K x qual st f fd
  b : Binds K fd ps []
  m : Meth K C x f
end RB

set_option maxRecDepth 100000
namespace RB
open PySem L2 PySem.Spec PyProof.Rows
/-! ### the figures of a number -/
end RB

set_option maxRecDepth 100000
namespace RB
open PySem L2 PySem.Spec PyProof.Rows
end RB

set_option maxRecDepth 100000
namespace RB
open PySem L2 PySem.Spec PyProof.Rows
/-! ### a recipe's core and the choices behind it -/
end RB

set_option maxRecDepth 100000
namespace RB
open PySem L2 PySem.Spec PyProof.Rows
end RB

set_option maxRecDepth 100000
namespace RB
open PySem L2 PySem.Spec PyProof.Rows
/-! ### rows of recipes, with their weight -/
end RB

set_option maxRecDepth 100000
namespace RB
open PySem L2 PySem.Spec PyProof.Rows
/-! ### recipes as data -/
theorem strOk_low {x : Str} (h : ∀ c ∈ x.cps.toList, c < 128) : PyData.strOk x = true := by
  show x.cps.all (· < 0x110000) = true
  rw [← Array.all_toList, List.all_eq_true]
  intro c hc
  exact decide_eq_true (by have := h c hc; omega)
theorem strOk_name {x : Str} (h : GName x) : PyData.strOk x = true := strOk_low fun c hc => by have := h.2.2 c hc; unfold isLow at this; omega
theorem lay_names : ∀ ns : List Str, (∀ x ∈ ns, GName x) → PyData.canLayAll0 (ns.map PyData.str) = true
  | [], _ => rfl
  | x :: r, h => by
    show (PyData.canLay0 (.str x) && PyData.canLayAll0 (r.map PyData.str)) = true
    rw [lay_names r fun y hy => h y (List.mem_cons_of_mem _ hy)]
    show (PyData.strOk x && true) = true
    rw [strOk_name (h x List.mem_cons_self)]; rfl
/-- two things that are the same data -/
noncomputable def rSame (K : PySem.W.Frag) (neg : Bool) : R2 := fun x y H Q => ∃ d, DatV K H x d ∧ DatV K H y d ∧ SeqAt.shaped d = true ∧ Q (.bl (!neg)) H
theorem shaped_lay {d : PyData} (h : SeqAt.shaped d = true) : d.canLay0 = true := by
  have h' : (d.canLay0 && decide (d.depth ≤ 64)) = true := h
  rw [Bool.and_eq_true] at h'
  exact h'.1
theorem qop_eqSame {X : Cx} (hu : X.A.units + 64 < cLine) : QOp X (compareOp .Eq) (rSame X.K false) := ⟨fun pins s σ H x y v u Q I rx ry h => by
  obtain ⟨d, h1, h2, h3, q⟩ := h
  have e := PySem.SeqAt.eqv_refl d (shaped_lay h3)
  exact op_eqD hu pins s σ H x y v u Q I rx ry ⟨d, d, h1, h2, h3, h3, by rw [e]; exact q⟩⟩
theorem qop_neSame {X : Cx} (hu : X.A.units + 64 < cLine) : QOp X (compareOp .NotEq) (rSame X.K true) := ⟨fun pins s σ H x y v u Q I rx ry h => by
  obtain ⟨d, h1, h2, h3, q⟩ := h
  have e := PySem.SeqAt.eqv_refl d (shaped_lay h3)
  exact op_neD hu pins s σ H x y v u Q I rx ry ⟨d, d, h1, h2, h3, h3, by rw [e]; exact q⟩⟩
end RB

set_option maxRecDepth 100000
namespace L2
open PySem PySem.Spec PyProof.Rows
/-! ### an exception that flies -/
theorem ObjOk.some {P : Program} {w : World} {H : Hp} {h : Heap} {a : Addr} {o : HO} (x : ObjOk P w H h a o) : ∃ u, h.get? a = Option.some u := by
  cases o with
  | lst xs => obtain ⟨_, _, _, _, e⟩ := x; exact ⟨_, e⟩
  | tup xs => obtain ⟨_, _, _, _, e, _⟩ := x; exact ⟨_, e⟩
  | dK kvs => obtain ⟨_, _, _, _, o, _, _, e, _⟩ := x; exact ⟨_, e⟩
  | dT kvs => obtain ⟨_, _, _, _, o, _, _, e, _⟩ := x; exact ⟨_, e⟩
  | set S n => obtain ⟨o, _, _, _, e, _⟩ := x; exact ⟨_, e⟩
  | ins C dx fs => obtain ⟨_, _, _, e, _⟩ := x; exact ⟨_, e⟩
  | own y => exact x
  | xd fs => obtain ⟨_, ⟨_, _, _, e, _⟩, _⟩ := x; exact ⟨_, e⟩
  | rng lo hi => obtain ⟨_, _, _, e⟩ := x; exact ⟨_, e⟩
  | frz ob u => obtain ⟨e, _⟩ := x; exact ⟨_, e⟩
  | tbl ps => exact ⟨_, show h.get? a = Option.some _ from x⟩
  | met f y => exact ⟨_, show h.get? a = Option.some _ from x⟩
  | ext φ => obtain ⟨_, e, _⟩ := x; exact e
/-- what is held of the heap behind B: what stood at the entry, and what is tracked, but the frames F -/
noncomputable def Holds (F : List Addr) (H' : Hp) (h h1 B : Heap) : Prop := ∀ b o, h1.get? b = some o → b ∉ F → ((∃ o0, h.get? b = some o0) ∨ (H' b).isSome = true) → B.get? b = some o
theorem un_up {F : List Addr} {H H' : Hp} {h h1 h2 B : Heap} (u : Un F [] H H' h h1) (hF : ∀ b ∈ F, ∃ o, h.get? b = some o ∧ H b = none ∧ ∀ vs, o.data ≠ .fields vs) (st : B.StaysIn h2) (up : h1.UpToSlots h2) (kc : Holds F H' h h1 B) : Un F [] H H' h h2 where
  keep := fun b o q n hb hx => st b o (kc b o (u.keep b o q n hb hx) hb (.inl ⟨o, q⟩))
  slot := fun b o q n hb hx => by
    obtain ⟨sl, e⟩ := u.slot b o q n hb hx
    obtain ⟨o', q', _, d⟩ := hF b hb
    rw [q] at q'; cases q'
    obtain ⟨sl2, e2⟩ := up b _ e d
    exact ⟨sl2, e2⟩
  free := u.free
  there := fun b o q hx => by
    by_cases hb : b ∈ F
    · obtain ⟨o', q', n, d⟩ := hF b hb
      rw [q] at q'; cases q'
      obtain ⟨sl, e⟩ := u.slot b o q n hb hx
      obtain ⟨sl2, e2⟩ := up b _ e d
      exact ⟨_, e2⟩
    · obtain ⟨o', e⟩ := u.there b o q hx
      exact ⟨o', st b o' (kc b o' e hb (.inl ⟨o, q⟩))⟩
  tups := u.tups
  frzs := u.frzs
  tbls := u.tbls
theorem hok_up {P : Program} {w : World} {F : List Addr} {H' : Hp} {h h1 h2 B : Heap} (ok : HOk P w H' h1) (hF : ∀ b ∈ F, H' b = none) (st : B.StaysIn h2) (kc : Holds F H' h h1 B) : HOk P w H' h2 := fun b o q =>
  (ok b o q).stay (fun c v hc r => by
    have hs : (H' c).isSome = true := by
      rcases hc with rfl | hc
      · rw [q]; rfl
      · rw [hc]; rfl
    exact st c v (kc c v r (fun hm => by rw [hF c hm] at hs; cases hs) (.inr hs))) (fun _ z => z) fun _ _ z => z
structure Fly (P : Program) (w : World) (outer : List Env) (H : Hp) (s : Shared) (a : Addr) (cls : Value) (H' : Hp) (s' : Shared) : Prop where
  os : s'.os = s.os
  bare : AllBare s'.gens
  un : Un (frs outer) [] H H' s.heap s'.heap
  hok : HOk P w H' s'.heap
  free : H' a = none
  fly : ∃ (B : Heap) (a0 : Value), Heap.FlyingW B outer a cls a0 s'.heap ∧ Holds (frs outer) H' s.heap s'.heap B
/-- how an exception lies behind a call -/
noncomputable def CXx (P : Program) (w : World) : CXT := fun outer H s E e s' => ∃ a cls H', e = .ref a ∧ Fly P w outer H s a cls H' s' ∧ E cls none H'
section
variable {X : Cx} {pins : List (Addr × Obj)} {σ : St} {H H' : Hp} {s s' : Shared} {a : Addr} {cls : Value}
theorem Inv.frm (I : Inv X pins σ H s) : ∀ b ∈ frs X.stack, ∃ o, s.heap.get? b = some o ∧ H b = none ∧ ∀ vs, o.data ≠ .fields vs := fun b hb => by
  obtain ⟨_, o, ho, hd⟩ := I.stack.mem hb
  exact ⟨o, ho, I.stkFree b hb, hd⟩
/-- the state as it was, but what is new -/
theorem Inv.landed (I : Inv X pins σ H s) (os : s'.os = s.os) (bare : AllBare s'.gens) (un : Un (frs X.stack) [] H H' s.heap s'.heap) (hok : HOk X.prog X.w H' s'.heap) {B h2 : Heap} (kc : Holds (frs X.stack) H' s.heap s'.heap B) (st : B.StaysIn h2) (up : s'.heap.UpToSlots h2) :
    Inv X pins σ H' { s' with heap := h2 } := by
  have hF := I.frm
  refine I.call' (ch := []) (s' := { s' with heap := h2 }) os (un_up un hF st up kc) (hok_up hok (fun b hb => ?_) st kc) bare fun b z => absurd z (by simp)
  obtain ⟨o, q, n, _⟩ := hF b hb
  exact un.free b o q n (by simp)
theorem Fly.land (F : Fly X.prog X.w X.stack H s a cls H' s') (I : Inv X pins σ H s) {B h2 : Heap} (kc : Holds (frs X.stack) H' s.heap s'.heap B) (st : B.StaysIn h2) (up : s'.heap.UpToSlots h2) : Inv X pins σ H' { s' with heap := h2 } :=
  I.landed F.os F.bare F.un F.hok kc st up
theorem holds_up {F : List Addr} {B h1 h2 : Heap} {h : Heap} (u : Un F [] H H' h h1) (hok : HOk X.prog X.w H' h1) (st : B.StaysIn h2) (kc : Holds F H' h h1 B) : Holds F H' h h2 B := fun b o q nb hb => by
  obtain ⟨o1, q1⟩ : ∃ o1, h1.get? b = some o1 := by
    rcases hb with ⟨o0, z⟩ | z
    · exact u.there b o0 z (by simp)
    · obtain ⟨v, hv⟩ := Option.isSome_iff_exists.mp z
      exact (hok b v hv).some
  have e1 := kc b o1 q1 nb hb
  have e2 := st b o1 e1
  rw [q] at e2; cases e2
  exact e1
end
section
variable {P : Program} {w : World} {K : PySem.W.Frag} {mg : Str → Option Value} {base : Heap} {N : List Str} {qual : Str} {scope : Scope} {f : Addr} {cd : Value} {A : Around} {outer : List Env} {s₀ : Shared} {H₀ : Hp} {E : XK}
theorem holds_out {X : Cx} {pins : List (Addr × Obj)} {σ : St} {H H' : Hp} {s : Shared} {h2 B : Heap} (hX : X.ex = []) (hst : X.stack = X.env :: X.outer) (hf : X.env.frame = some X.env.locals) (I : Inv X pins σ H s) (kc : Holds (frs X.stack) H' s.heap h2 B) (fr : H' X.env.locals = none) : Holds (frs X.outer) H' X.s₀.heap h2 B := fun b o q nb hb => by
  have nL : b ≠ X.env.locals := by
    rcases hb with ⟨o0, z⟩ | z
    · exact Nat.ne_of_lt (Nat.lt_of_lt_of_le (Heap.lt_size z) I.ok.above)
    · intro e; rw [e, fr] at z; cases z
  refine kc b o q ?_ ?_
  · intro hm
    rw [hst] at hm
    unfold frs at hm
    rw [List.filterMap_cons, hf] at hm
    rcases List.mem_cons.mp hm with e | e
    · exact nL e
    · exact nb e
  · rcases hb with ⟨o0, z⟩ | z
    · exact .inl (I.base.there b o0 z (by rw [hX]; simp))
    · exact .inr z
/-- an own class of exceptions, over ValueError, without an __init__ of its own -/
structure ExC (K : PySem.W.Frag) (C : Addr) : Prop where
  obj : ∃ nm q N bs bm hdct sn sub ab col dd k0 k1 k2 k3 k5, K.lookup C = some (excClassObj nm q C N bs bm hdct sn sub ab col dd k0 k1 k2 k3 k5 "ValueError.__new__") ∧ PySem.W.nsOkIn K N = true ∧ PySem.W.nsIn K N "__init__" = some none ∧
    PySem.W.tailIn K [.type "ValueError", .type "Exception", .type "BaseException", .type "object"] bm = true
noncomputable def tRaise (C : Addr) (E : XK) (t : TA) : TS := fun _ σ H => t σ H fun vs H1 => vs.length ≤ sizeLine ∧ E (.ref C) none H1
theorem ps_raise {x : Str} {np cpos pos : Pos} {e₀ : Expr} {es : List Expr} {t : TA} {C : Addr} (cl : ExC K C) (hg : Gl (cxOf (CXx P w) P w K mg base N qual scope f cd A outer s₀ H₀ E) x) (hm : mg x = some (.ref C))
    (ha : PA (cxOf (CXx P w) P w K mg base N qual scope f cd A outer s₀ H₀ E) (e₀ :: es) t) (hdb : (x == ("__debug__" : Str)) = false := by decide)
    (he : starEach (e₀ :: es) (cxOf (CXx P w) P w K mg base N qual scope f cd A outer s₀ H₀ E).env = (false, eval e₀ (cxOf (CXx P w) P w K mg base N qual scope f cd A outer s₀ H₀ E).env) :: starEach es (cxOf (CXx P w) P w K mg base N qual scope f cd A outer s₀ H₀ E).env := by rfl)
    (hpl : (backTo cpos (starEach es (cxOf (CXx P w) P w K mg base N qual scope f cd A outer s₀ H₀ E).env)).any (·.1) = false := by rfl) :
    PS (cxOf (CXx P w) P w K mg base N qual scope f cd A outer s₀ H₀ E) (.Raise (some (.Call (.Name x np) (e₀ :: es) [] cpos)) none pos) (tRaise C E t) := by
  intro pins s σ H D I h
  obtain ⟨nm, q, N', bs, bm, hdct, sn, sub, ab, col, dd, k0, k1, k2, k3, k5, lk, nk, ik, tk⟩ := cl.obj
  have XB : K.In base := I.mod.kin
  have hN : base.Ns N' (base.nsMap N') := .of_isNs (PySem.W.isNs_of_in XB nk)
  have T : OwnTail base [.type "ValueError", .type "Exception", .type "BaseException", .type "object"] bm := PySem.W.tail_of_in XB tk
  refine wpAny_Raise_call_subT (nm := nm) (q := q) (N := N') (bs := bs) (bm := bm) (hdct := hdct) (sn := sn) (sub := sub) (ab := ab) (col := col) (dd := dd) (k0 := k0) (k1 := k1) (k2 := k2) (k3 := k3) (k5 := k5) PySem.F.excBase_ValueError (mN := base.nsMap N') (T.hasType PySem.F.excBase_ValueError.hasBase) (I.ok.hd rfl)
    (by rw [he]; show (false || (backTo cpos (starEach es _)).any (·.1)) = false; rw [hpl]; rfl) (PySem.W.nsMap_none_of_in XB nk ik) (ld_glob I hg hm ⟨rfl, ?_⟩ hdb)
  have ha' := ha cpos pins s σ H _ I h
  rw [he] at ha' ⊢
  refine Calls.evalArgs_plain (thn ha' fun us s2 ⟨vs, H1, I1, r, hz, hE⟩ => ⟨rfl, by rw [← r.length]; exact hz, I1.bk _ _ (XB _ _ lk), hN.keeps I1.bk, T.keeps I1.bk, fun h' e hx => ?_⟩)
  have hin : ∀ env ∈ (cxOf (CXx P w) P w K mg base N qual scope f cd A outer s₀ H₀ E).stack, ∀ b, env.frame = some b → b ∈ frs (cxOf (CXx P w) P w K mg base N qual scope f cd A outer s₀ H₀ E).stack := fun env hen b hb => List.mem_filterMap.mpr ⟨env, hen, hb⟩
  refine wpAny_leaves_madeW (base := PySem.W.hideAll s2.heap (frs (cxOf (CXx P w) P w K mg base N qual scope f cd A outer s₀ H₀ E).stack)) (h := s2.heap) (L := (cxOf (CXx P w) P w K mg base N qual scope f cd A outer s₀ H₀ E).env.locals) I1.ok.frames rfl
    (fun b o z => PySem.W.of_hideAll _ z) (PySem.W.funFrames_hide I1.stack hin) hx fun h2 t fl _ _ up => ?_
  have un : Un (frs (cxOf (CXx P w) P w K mg base N qual scope f cd A outer s₀ H₀ E).stack) [] H1 H1 s2.heap h' := Un.kept hx.keeps
  have hok : HOk P w H1 h' := I1.hok.kept hx.keeps
  have kc : Holds (frs (cxOf (CXx P w) P w K mg base N qual scope f cd A outer s₀ H₀ E).stack) H1 s2.heap h' (PySem.W.hideAll s2.heap (frs (cxOf (CXx P w) P w K mg base N qual scope f cd A outer s₀ H₀ E).stack)) := fun b o q nb hb => by
    obtain ⟨o1, q1⟩ : ∃ o1, s2.heap.get? b = some o1 := by
      rcases hb with z | z
      · exact z
      · obtain ⟨v, hv⟩ := Option.isSome_iff_exists.mp z
        exact (I1.hok b v hv).some
    have e2 := hx.keeps b o1 q1
    rw [q] at e2; cases e2
    exact PySem.W.hideAll_get _ q1 nb
  have J := I1.landed (s' := { s2 with heap := h' }) rfl I1.bare un hok kc fl.1 up
  have fre : H1 e = none := by
    cases z : H1 e with
    | none => rfl
    | some v =>
      obtain ⟨o, ho⟩ := (I1.hok e v z).some
      rw [hx.new] at ho; cases ho
  exact ⟨e, .ref C, H1, rfl, ⟨J.os, J.bare, J.base, J.hok, fre, _, _, fl, holds_out rfl rfl rfl I1 (holds_up (X := cxOf (CXx P w) P w K mg base N qual scope f cd A outer s₀ H₀ E) un hok fl.1 kc) J.free⟩, hE⟩
end
end L2

set_option maxRecDepth 100000
namespace L2
open PySem PySem.Spec PyProof.Rows
section
variable {X : Cx} {pins : List (Addr × Obj)} {σ : St} {H H' : Hp} {s s' : Shared} {a : Addr} {cls : Value}
/-! ### try -/
/-- within a try's body -/
noncomputable abbrev Cx.tryd (X : Cx) (pn : List (Addr × Obj)) (E : Value → Shared → Prop) : Cx := { X with pn := X.pn ++ pn, xe := E }
/-- within an except's suite, the exception e; nothing is raised there -/
noncomputable abbrev Cx.held (X : Cx) (e : Value) : Cx := { X with A := X.A.mark (some e), calm := false, xe := fun _ _ => False }
theorem Cx.Ok.tryd (ok : X.Ok) (pn : List (Addr × Obj)) (E : Value → Shared → Prop) : (X.tryd pn E).Ok :=
  ⟨ok.mod, ok.kind, ok.glob, ok.blt, ok.above, ok.inj, ok.has, ok.cab, ok.hd, ok.frames, ok.stk, ok.exf, ok.bs, ok.bsz, ok.noex, ok.exfs, ok.funs, ok.frf⟩
theorem Cx.Ok.untryd {pn : List (Addr × Obj)} {E : Value → Shared → Prop} (ok : (X.tryd pn E).Ok) : X.Ok :=
  ⟨ok.mod, ok.kind, ok.glob, ok.blt, ok.above, ok.inj, ok.has, ok.cab, ok.hd, ok.frames, ok.stk, ok.exf, ok.bs, ok.bsz, ok.noex, ok.exfs, ok.funs, ok.frf⟩
theorem Cx.Ok.held (ok : X.Ok) (e : Value) : (X.held e).Ok :=
  ⟨ok.mod, ok.kind, ok.glob, ok.blt, ok.above, ok.inj, ok.has, ok.cab, fun z => Bool.noConfusion (show false = true from z), ok.frames, ok.stk, ok.exf, ok.bs, ok.bsz, ok.noex, ok.exfs, ok.funs, ok.frf⟩
theorem Inv.tryd (I : Inv X pins σ H s) (E : Value → Shared → Prop) : Inv (X.tryd pins E) [] σ H s :=
  ⟨I.ok.tryd pins E, I.os, I.bare, I.base, I.loc, I.cell, I.free, I.freeC, fun p hp => I.pin p (by simpa using hp), I.hok, I.len⟩
theorem Inv.untryd {pn : List (Addr × Obj)} {E : Value → Shared → Prop} (I : Inv (X.tryd pn E) pins σ H s) : Inv X pn σ H s :=
  ⟨I.ok.untryd, I.os, I.bare, I.base, I.loc, I.cell, I.free, I.freeC, fun p hp => I.pin p (List.mem_append_left _ hp), I.hok, I.len⟩
theorem Inv.held (I : Inv X pins σ H s) (e : Value) : Inv (X.held e) pins σ H s := ⟨I.ok.held e, I.os, I.bare, I.base, I.loc, I.cell, I.free, I.freeC, I.pin, I.hok, I.len⟩
theorem Inv.unheld {e : Value} (ok : X.Ok) (I : Inv (X.held e) pins σ H s) : Inv X pins σ H s := ⟨ok, I.os, I.bare, I.base, I.loc, I.cell, I.free, I.freeC, I.pin, I.hok, I.len⟩
/-- an object that stands is tracked from here on -/
theorem Inv.track {o : HO} (I : Inv X pins σ H s) (hn : H a = none) (h0 : X.s₀.heap.get? a = none) (hL : a ≠ X.env.locals) (hC : ∀ x c, X.env.cells.lookup x = some c → c ≠ a) (hp : ∀ p ∈ X.pn ++ pins, p.1 ≠ a)
    (new : ObjOk X.prog X.w (upd H a o) s.heap a o) : Inv X pins σ (upd H a o) s := by
  refine ⟨I.ok, I.os, I.bare, ⟨fun b u q n hb hx => I.base.keep b u q n hb hx, fun b u q n hb hx => I.base.slot b u q n hb hx, fun b u q n hx => ?_, I.base.there, fun b xs q => ?_, fun b u v q => ?_, fun b ps q => ?_⟩, I.loc, I.cell, ?_, fun x c e => ?_, fun p q => ?_, fun b u q => ?_, I.len⟩
  · rw [upd_ne (fun z => by rw [z, h0] at q; cases q)]; exact I.base.free b u q n hx
  · have e := I.base.tups b xs q
    rw [upd_ne (ne_of_none e hn)]; exact e
  · have e := I.base.frzs b u v q
    rw [upd_ne (ne_of_none e hn)]; exact e
  · obtain ⟨m, e⟩ := I.base.tbls b ps q
    exact ⟨m, by rw [upd_ne (ne_of_none e hn)]; exact e⟩
  · rw [upd_ne (Ne.symm hL)]; exact I.free
  · rw [upd_ne (hC x c e)]; exact I.freeC x c e
  · obtain ⟨e, n, r⟩ := I.pin p q
    exact ⟨e, by rw [upd_ne (hp p q)]; exact n, r⟩
  · by_cases hb : b = a
    · subst hb; rw [upd_same] at q; cases q; exact new
    · rw [upd_ne hb] at q
      exact (I.hok b u q).stay (fun c v _ r => r) (fun c r => by rw [upd_ne (ne_of_none r hn)]; exact r) fun c xs r => by rw [upd_ne (ne_of_none r hn)]; exact r
/-- a name goes -/
theorem Inv.gone {i : Nat} {n : Str} {h' : Heap} {v : Option Value} {m : Str → Option Value} {t' : Nat} (I : Inv X pins σ H s) (hN : X.N.Nodup) (hi : X.N[i]? = some n) (hl : X.env.scope.names.lookup n = some .local) (hn : s.heap.Ns X.env.locals m)
    (hm : ∀ (j : Nat) (x : Str) (v : V), X.N[j]? = some x → σ[j]? = some (some v) → Vis X.env.scope x → ∃ u, RelV v u ∧ Look X.env s.heap m x u)
    (hn' : h'.Ns X.env.locals (fun x => if x = n then v else m x)) (hs : Heap.SameBut X.env.locals s.heap h') : Inv X pins (σ.set i none) H { s with heap := h', toks := t' } := by
  obtain ⟨oL, _, _, hoL, _⟩ := id hn
  have cne := I.cne
  have lt : ∀ b o, X.s₀.heap.get? b = some o → b ≠ X.env.locals := fun b o e => Nat.ne_of_lt (Nat.lt_of_lt_of_le (Heap.lt_size e) I.ok.above)
  refine ⟨I.ok, I.os, I.bare, ⟨fun b o e n hb hx => (hs.2 b (lt b o e)).trans (I.base.keep b o e n hb hx), fun b o e n hb hx => ?_, I.base.free, fun b o e hx => ?_, I.base.tups, I.base.frzs, I.base.tbls⟩, ⟨_, hn', fun j y v' e1 e2 e3 => ?_⟩, fun y c e => ?_, I.free, I.freeC, fun p hp => ?_, fun b ob e => ?_, by simpa using I.len⟩
  · obtain ⟨sl, e1⟩ := I.base.slot b o e n hb hx
    exact ⟨sl, (hs.2 b (lt b o e)).trans e1⟩
  · obtain ⟨o', e1⟩ := I.base.there b o e hx
    exact ⟨o', (hs.2 b (lt b o e)).trans e1⟩
  · by_cases hj : j = i
    · subst hj
      have hiσ : j < σ.length := by rw [I.len]; exact (List.getElem?_eq_some_iff.mp hi).1
      rw [List.getElem?_set_self hiσ] at e2
      cases e2
    · rw [List.getElem?_set_ne (Ne.symm hj)] at e2
      obtain ⟨u', r', q⟩ := hm j y v' e1 e2 e3
      refine ⟨u', r', ?_⟩
      rcases q with ⟨k, e⟩ | ⟨k, c, e, z⟩
      · refine .inl ⟨k, ?_⟩
        have : y ≠ n := fun e => hj (nodup_ix hN e1 (e ▸ hi))
        simp [this, e]
      · exact .inr ⟨k, c, e, z.sameBut hs (cne y c e)⟩
  · obtain ⟨w', z⟩ := I.cell y c e
    exact ⟨w', z.sameBut hs (cne y c e)⟩
  · obtain ⟨e, n, ne, nf, d⟩ := I.pin p hp
    exact ⟨(hs.2 p.1 ne).trans e, n, ne, nf, d⟩
  · refine (I.hok b ob e).stay (fun c w' hc q => (hs.2 c ?_).trans q) (fun _ q => q) fun _ _ q => q
    have fr := I.free
    rintro rfl
    rcases hc with rfl | hc
    · rw [fr] at e; cases e
    · rw [fr] at hc; cases hc
/-- the object of an exception -/
noncomputable def excO (cls : Value) (p : Addr) : HO := .ext fun h => ∃ o, h.get? p = some o ∧ o.cls = cls
noncomputable def PassX (CX : CXT) (X : Cx) (E : St → XK) : Prop := ∀ (pins : List (Addr × Obj)) (σ : St) (H : Hp) (s : Shared) (e : Value) (s' : Shared), Inv X pins σ H s → CX X.stack H s (E σ) e s' → X.xe e s'
noncomputable def tTry (K : PySem.W.Frag) (C : Addr) (i : Nat) (tb : (St → XK) → TS) (th : TS) : TS := fun D σ H =>
  tb (fun σ1 cls _ H1 => PySem.W.exmOne K cls (.ref C) = some true ∧ ∀ p, H1 p = none → th { nx := fun σ2 H2 => D.nx (σ2.set i none) H2, rt := D.rt, bk := fun σ2 H2 => D.bk (σ2.set i none) H2, ct := fun σ2 H2 => D.ct (σ2.set i none) H2 } (σ1.set i (some (.ref p))) (upd H1 p (excO cls p))) D σ H
end
section
variable {X : Cx} {x n : Str} {i : Nat} {C : Addr} {np hpos pos : Pos} {body suite : List Stmt} {b₀ : Stmt} {tb : (St → XK) → TS} {th : TS}
theorem ps_try_as (hex : X.ex = []) (hst : X.stack = X.env :: X.outer) (hfr : X.env.frame = some X.env.locals) (hN : X.N.Nodup) (hi : X.N[i]? = some n) (hl : X.env.scope.names.lookup n = some .local) (hg : Gl X x) (hm : X.mg x = some (.ref C))
    (hb : ∀ pn xe (E : St → XK), PassX (CXx X.prog X.w) (X.tryd pn xe) E → PSs (X.tryd pn xe) body (tb E)) (hs : ∀ e, PSs (X.held e) (b₀ :: suite) th) (hdb : (x == ("__debug__" : Str)) = false := by decide) :
    PS X (.Try body [.ExceptHandler (some (.Name x np)) (some n) (b₀ :: suite) hpos] [] [] pos) (tTry X.K C i tb th) := by
  intro pins s σ H D I h
  rw [arm_exec_Try]
  refine wpAny_bind (wpAny_standAt (wpAny_tryStmt_except ?_))
  refine wpAny_mono (hb pins (fun e s₁ => wpAny (model X.prog X.w) X.A (noteFrame e X.env) (fun _ s₂ => wpAny (model X.prog X.w) X.A (setFlight e none) (fun _ s₃ => wpAny (model X.prog X.w) X.A (handleBy e X.env [.ExceptHandler (some (.Name x np)) (some n) (b₀ :: suite) hpos]) (SP X pins D) X.xe s₃) X.xe s₂) X.xe s₁)
    _ ?_ [] s σ H D (I.tryd _) h) (fun f s1 q => ?_) fun _ _ z => z
  · intro pins2 σ1 H1 s1 e s' I1 hx
    obtain ⟨a, cls, H', rfl, F, hm1, hth⟩ := hx
    obtain ⟨B, a0, fl, kc⟩ := F.fly
    have hcls : (X.env.scope.kind == .class || (X.env.scope.kind == .module && X.env.locals != X.env.globals)) = false := by rw [I.ok.kind]; rfl
    have hframes : X.A.frames = some (X.env :: X.outer) := by rw [← hst]; exact I.ok.frames
    have fl' : Heap.FlyingW B (X.env :: X.outer) a cls a0 s'.heap := by rw [← hst]; exact fl
    refine wpAny_looks_onW hframes hfr fl' fun h4 held4 up4 => ?_
    refine wpAny_landsW held4 fun h5 fl5 up5 => ?_
    have J5 := (Fly.land (X := X.tryd pins _) F I1 kc fl5.1 (up4.trans up5)).untryd
    obtain ⟨oe, heo, hec⟩ := fl5.there
    refine wpAny_handleBy_cons (codeAny_handlers_test (ld_glob (J5.held (.ref a)) hg hm ?_ hdb)) (by intro q; cases q)
    have LT : PySem.W.Looks (model X.prog X.w) h5 (typeOf (.ref a)) cls := by
      subst hec
      exact (PySem.W.Looks.ld heo).andThen .now
    refine (PySem.W.exm_one J5.kIn LT hm1).here ?_
    refine codeAny_handlers_suite_as ?_
    refine lands_againW fl5 fun h6 fl6 up6 => ?_
    have J6 := (Fly.land (X := X.tryd pins _) F I1 kc fl6.1 ((up4.trans up5).trans up6)).untryd
    obtain ⟨oe6, heo6, hec6⟩ := fl6.there
    obtain ⟨oe7, vs7, heo7, hec7, hd7, _⟩ := fl6.first
    have news : s1.heap.get? a = none := by
      cases z : s1.heap.get? a with
      | none => rfl
      | some o =>
        exfalso
        obtain ⟨o', e'⟩ := F.un.there a o z (by simp)
        by_cases hma : a ∈ frs X.stack
        · obtain ⟨of, q1, q2, q3⟩ := I1.frm a hma
          obtain ⟨sl, e1⟩ := F.un.slot a of q1 q2 hma (by simp)
          obtain ⟨sl2, e2⟩ := ((up4.trans up5).trans up6) a _ e1 q3
          rw [heo7] at e2; cases e2
          exact q3 _ hd7
        · have := kc a o' e' hma (.inl ⟨o, z⟩)
          rw [fl.2.1] at this; cases this
    have there1 := I1.base.there
    have T6 : Inv X pins σ1 (upd H' a (excO cls a)) { s' with heap := h6 } := by
      refine J6.track F.free ?_ ?_ ?_ ?_ ?_
      · cases z : X.s₀.heap.get? a with
        | none => rfl
        | some o =>
          obtain ⟨o', e'⟩ := there1 a o z (by show a ∉ X.ex; rw [hex]; simp)
          rw [news] at e'; cases e'
      · rintro rfl
        have := I1.lt
        obtain ⟨m, ⟨oL, _, _, hoL, _⟩, _⟩ := I1.loc
        rw [news] at hoL; cases hoL
      · rintro y c ec rfl
        obtain ⟨v, o, ho, _⟩ := I1.cell y _ ec
        rw [news] at ho; cases ho
      · rintro p hp rfl
        have := (I1.pin p (List.mem_append_left _ hp)).1
        rw [news] at this; cases this
      · exact ⟨⟨oe6, heo6, hec6⟩, ⟨oe6, heo6⟩, fun h1 h2 ⟨o, q, c⟩ k => ⟨o, k o q, c⟩⟩
    refine store_ok (X := X.held (.ref a)) (v := .ref a) (T6.held (.ref a)) hN hi (.inl hl) rfl (fun s7 J7 => ?_) (.inr hl)
    refine wpAny_mono (hs (.ref a) pins s7 _ _ _ J7 (hth a F.free)) (fun f s8 q => ?_) fun _ _ z => False.elim z
    have fin : ∀ {σ2 : St} {H2 : Hp} {Q : Unit → Shared → Prop}, Inv (X.held (.ref a)) pins σ2 H2 s8 → (∀ s9, Inv X pins (σ2.set i none) H2 s9 → Q () s9) → wpAny (model X.prog X.w) X.A (do bindName X.env n .none; unbindBehindTheSuite X.env n hpos) Q X.xe s8 := by
      intro σ2 H2 Q J8 k
      obtain ⟨m, hn, hlk⟩ := J8.loc
      refine wpAny_nameGoes_keeps hl hn hcls fun h9 v hn9 hs9 => ?_
      exact k _ ((J8.unheld I.ok).gone hN hi hl hn hlk hn9 hs9)
    cases f with
    | next => obtain ⟨σ2, H2, J8, q⟩ := q; exact fin J8 fun s9 J9 => ⟨_, H2, J9, q⟩
    | brk => obtain ⟨σ2, H2, J8, q⟩ := q; exact fin J8 fun s9 J9 => ⟨_, H2, J9, q⟩
    | cont => obtain ⟨σ2, H2, J8, q⟩ := q; exact fin J8 fun s9 J9 => ⟨_, H2, J9, q⟩
    | ret u => obtain ⟨v, σ2, H2, J8, r, q⟩ := q; exact fin J8 fun s9 J9 => ⟨v, _, H2, J9, r, q⟩
  · cases f with
    | next => obtain ⟨σ', H', J, q⟩ := q; exact wpAny_execs_nil ⟨σ', H', J.untryd, q⟩
    | brk => obtain ⟨σ', H', J, q⟩ := q; exact ⟨σ', H', J.untryd, q⟩
    | cont => obtain ⟨σ', H', J, q⟩ := q; exact ⟨σ', H', J.untryd, q⟩
    | ret u => obtain ⟨v, σ', H', J, r, q⟩ := q; exact ⟨v, σ', H', J.untryd, r, q⟩
end
end L2

set_option maxRecDepth 100000
namespace L2
open PySem PySem.Spec PyProof.Rows PySem.W
section
variable {prog : Program} {w : World} {A : Around} {E : Value → Shared → Prop} {h : Heap} {g : Array GenState} {d : Drawn} {t : Nat} {os : OsState} {K : PySem.W.Frag} {a C : Addr} {o : Obj}
/-- what the class of an exception tells of itself -/
structure ExK (K : PySem.W.Frag) (C : Addr) : Prop where
  ga : PySem.W.findIn K (.ref C) "__getattribute__" = some (some (.builtin "BaseException.__getattribute__"))
  gh : PySem.W.findIn K (.ref C) "__getattr__" = some none
  cl : PySem.W.findIn K (.ref C) "__class__" = some (some (.builtin "object.__class__"))
  be : PySem.W.mroIn K C (.type "BaseException") = some true
  ob : PySem.W.mroIn K C (.type "object") = some true
  cs : (PySem.W.clsIn K C).isSome = true
theorem exc_get {R : Result → Shared → Prop} (X : K.In h) (k : ExK K C) (hx : h.get? a = some o) (hc : o.cls = .ref C) (hq : R (.ok (.ret (.ref C))) ⟨h, g, d, t, os⟩) :
    codeAny (model prog w) A (.call (.builtin "getset_descriptor.__get__") ⟨[.builtin "object.__class__", .ref a, .ref C], []⟩) R ⟨h, g, d, t, os⟩ := by
  have hT5 : (⟨h, g, d, t, os⟩ : Shared).TypeIs (.builtin "object.__class__") "getset_descriptor" := PySem.F.typeOf_object_class
  have LO : Looks (model prog w) h (isSubtype (.ref C) (.type (".".intercalate ("object.__class__".cutAt '.').dropLast))) true := by
    rw [PySem.F.owner_object_class]; exact looks_mroIn X k.ob
  refine codeAny_call_builtin PySem.F.slot_gs_get.plain PySem.F.entry_gs_get (PySem.F.slot_gs_get.check _ _ _ _ _ _ _ _ hT5 (PySem.F.args_gs_get _ _ _) ?_)
  repeat (any_goals (first | assumption | (with_reducible refine wpAny_loadPart_at hx ?_; rw [hc]) | with_reducible refine LO.at ?_ | wp_step))
  refine ⟨Code.quiet_builtin _ (by decide +kernel), codeAny_builtin PySem.F.entry_object_class ?_⟩
  repeat (any_goals (first | assumption | (with_reducible refine wpAny_loadPart_at hx ?_; rw [hc]) | wp_step))
theorem exc_entry {tk : Tok} {Q : Fin → Shared → Prop} (X : K.In h) (k : ExK K C) (hx : h.get? a = some o) (hc : o.cls = .ref C) (hq : Q (.done (.ret (.ref C))) ⟨h, g, d, t, os⟩) :
    wpAny (model prog w) A (Builtin.«object.__getattribute__» ⟨[.ref a, .str "__class__" tk], []⟩) Q E ⟨h, g, d, t, os⟩ := by
  have hT5 : (⟨h, g, d, t, os⟩ : Shared).TypeIs (.builtin "object.__class__") "getset_descriptor" := PySem.F.typeOf_object_class
  have f5 := PySem.F.typeOf_object_class
  have f6 := PySem.F.slot_gs_get.lookup
  have f7 := PySem.F.slot_gs_set.lookup
  have LC := looks_findIn (M := model prog w) X k.cl
  repeat (any_goals (first | assumption | (with_reducible refine wpAny_loadPart_at hx ?_; rw [hc]) | with_reducible refine LC.at ?_ | wp_step))
  refine exc_get X k hx hc ?_
  repeat (any_goals (first | assumption | wp_step))
theorem exc_check {M : Model} {v : Value} {Q : Unit → Shared → Prop} (X : K.In h) (k : ExK K C) (hx : h.get? a = some o) (hc : o.cls = .ref C) (q : Q () ⟨h, g, d, t, os⟩) : wpAny M A (checkBuiltinCall "BaseException.__getattribute__" ⟨[.ref a, v], []⟩) Q E ⟨h, g, d, t, os⟩ := by
  have bk : builtinKind "BaseException.__getattribute__" = some .slot := by decide +kernel
  have bs : splitId "BaseException.__getattribute__" = some ("BaseException", "__getattribute__") := by decide +kernel
  have LB := looks_mroIn (M := M) X k.be
  have ar := PySem.F.args_bexc_ga (.ref a) v
  simp only [checkBuiltinCall, bk, bs]
  refine wpAny_bind ?_
  unfold isInstance
  repeat (first | (with_reducible refine wpAny_loadPart_at hx ?_; rw [hc]) | with_reducible refine LB.at ?_ | wp_step)
  exact q
theorem exc_call {tk : Tok} {R : Result → Shared → Prop} (X : K.In h) (k : ExK K C) (hx : h.get? a = some o) (hc : o.cls = .ref C) (hq : R (.ok (.ret (.ref C))) ⟨h, g, d, t, os⟩) :
    codeAny (model prog w) A (.call (.builtin "BaseException.__getattribute__") ⟨[.ref a, .str "__class__" tk], []⟩) R ⟨h, g, d, t, os⟩ :=
  codeAny_call_builtin (by decide +kernel) PySem.F.entry_bexc_ga (exc_check X k hx hc (exc_entry X k hx hc hq))
theorem exc_by {tk : Tok} {Q : Value → Shared → Prop} (X : K.In h) (k : ExK K C) (hx : h.get? a = some o) (hc : o.cls = .ref C) (hq : Q (.ref C) ⟨h, g, d, t, os⟩) :
    wpAny (model prog w) A (getAttrBy (.ref a) (.str "__class__" tk) false) Q E ⟨h, g, d, t, os⟩ := by
  have hx2 : (Value.builtin "BaseException.__getattribute__" == Value.builtin "object.__getattribute__") = false := by decide +kernel
  have hx1 : (onTheHeap (Value.ref C) && Value.builtin "BaseException.__getattribute__" == Value.builtin "object.__getattribute__") = false := by rw [hx2]; rfl
  have LG := looks_findIn (M := model prog w) X k.ga
  have LH := looks_findIn (M := model prog w) X k.gh
  have hp : plainId "BaseException.__getattribute__" = true := by decide +kernel
  have f3 : bindSpecial (.builtin "BaseException.__getattribute__") (.ref a) = pure (.builtin "BaseException.__getattribute__", [.ref a]) := by
    have hop : withoutEnding? "BaseException.__getattribute__" "#opaque" = none := by decide +kernel
    have hdat : withoutEnding? "BaseException.__getattribute__" "#data" = none := by decide +kernel
    have hk : builtinKind "BaseException.__getattribute__" = some .slot := by decide +kernel
    simp only [bindSpecial, typeOf, builtinType, hop, hdat, hk]; rfl
  repeat (any_goals (first | assumption | (with_reducible refine wpAny_loadPart_at hx ?_; rw [hc]) | with_reducible refine LG.at ?_ | with_reducible refine LH.at ?_ | wp_step))
  refine exc_call X k hx hc ?_
  repeat (any_goals (first | assumption | wp_step))
theorem exc_class {Q : Option Value → Shared → Prop} (X : K.In h) (k : ExK K C) (hx : h.get? a = some o) (hc : o.cls = .ref C) (hq : Q (some (.ref C)) ⟨h, g, d, t + 1, os⟩) : wpAny (model prog w) A (getAttr? (.ref a) "__class__") Q E ⟨h, g, d, t, os⟩ := by
  unfold getAttr? getAttrBy?
  repeat (any_goals (first | assumption | with_reducible apply exc_by X k hx hc | wp_step))
/-- isinstance of an exception -/
theorem kitx_exc (k : ExK K C) : KitX K (.ref a) (.ref C) (fun h => ∃ o, h.get? a = some o ∧ o.cls = .ref C) where
  ty := fun M h _ p => by
    obtain ⟨o, h1, h2⟩ := p
    rw [← h2]
    exact (Looks.ld h1).andThen .now
  it := fun _ _ X _ => by
    obtain ⟨cdD, hcD⟩ := Option.isSome_iff_exists.mp k.cs
    unfold clsIn at hcD
    split at hcD
    · rename_i ho
      intro A' Q' E' s' k q
      unfold isType loadHead
      exact wpAny_bind (wpAny_loadPart (k _ _ (X _ _ ho)) (wpAny_pure q))
    · cases hcD
  ne := fun h tp dd its n sl X htp => by
    obtain ⟨cdD, hcD⟩ := Option.isSome_iff_exists.mp k.cs
    refine Bool.eq_false_iff.mpr fun q => ?_
    have e : C = tp := Value.ref.inj (beq_iff_eq.mp q)
    subst e
    unfold clsIn at hcD
    split at hcD
    · rename_i ho
      have z := (X _ _ ho).symm.trans htp
      cases z
    · cases hcD
  ca := fun {_ _ _ _ _ s} X p q => by
    obtain ⟨h, g, d, t, os⟩ := s
    obtain ⟨o, h1, h2⟩ := p
    exact exc_class X k h1 h2 q
end
end L2

set_option maxRecDepth 100000
namespace L2
open PySem PySem.Spec PyProof.Rows
section
variable {X : Cx} {pins : List (Addr × Obj)} {σ : St} {H H' : Hp} {s s' : Shared}
/-- a class as a value -/
inductive ClV : V → Value → Prop where
  | ty (T : String) : ClV (.ty T) (.type T)
  | own (D : Addr) : ClV (.ref D) (.ref D)
theorem ClV.rel {v : V} {c u : Value} (h : ClV v c) (r : RelV v u) : u = c := by
  cases h with
  | ty T => exact r
  | own D => exact r
theorem call_isiE : CallR X (.builtin "isinstance") (fun xs H Q => ∃ p C cv c b, xs = [.ref p, cv] ∧ H p = some (excO (.ref C) p) ∧ ExK X.K C ∧ ClV cv c ∧ PySem.W.kitOne X.K (.ref C) c = some b ∧ Q (.bl b) H) := by
  intro pins s σ H xs us Q I r h
  obtain ⟨p, C, cv, c, b, rfl, hp, k, cl, e, q⟩ := h
  obtain ⟨u, v, rfl, r1, r2⟩ := Vals.two r
  cases (show u = Value.ref p from r1)
  cases cl.rel r2
  obtain ⟨⟨o, h1, h2⟩, _⟩ := (show ObjOk X.prog X.w H s.heap p (excO (.ref C) p) from I.hok p _ hp)
  exact PySem.W.kia_one (kitx_exc k) I.kIn ⟨o, h1, h2⟩ e (fun z => nomatch z) fun tk => ⟨.bl b, H, I.tok tk, rfl, q⟩
theorem qc_isiE : QCall X (.builtin "isinstance") (fun xs H Q => ∃ p C cv c b, xs = [.ref p, cv] ∧ H p = some (excO (.ref C) p) ∧ ExK X.K C ∧ ClV cv c ∧ PySem.W.kitOne X.K (.ref C) c = some b ∧ Q (.bl b) H) := ⟨call_isiE⟩
theorem bt_ValueError : bootBuiltins "ValueError" = some (.type "ValueError") := by decide +kernel
/-! ### f"{x!r} .." of a short text: some text -/
end
/-! ### defs that raise; calls in a try's body -/
theorem Fun.okX {P : Program} {w : World} {K : PySem.W.Frag} {mg : Str → Option Value} {base : Heap} {x qual : Str} {st : Stmt} {f : Addr} {fd : FuncData} {N ps : List Str} {k : Nat} {sp : Sp} (F : Fun K x qual st f fd) (S : FnScope N ps (defScope st)) (len : ∀ vs H Q E, sp vs H Q E → vs.length = ps.length)
    (hbody : ∀ (cdv : Value) (A : Around) (outer : List Env) (s : Shared) (H : Hp) (vs : List V) (Q : VK) (E : XK), Room k (A.deeper (envOfC qual (defScope st) s.heap.objs.size f cdv)) → sp vs H Q E →
      ∃ t, QSs (cxOf (CXx P w) P w K mg base N qual (defScope st) f cdv A outer s H E) (defBody st) t ∧ t { nx := fun _ H' => Q .non H', rt := Q } (start N vs) H) : FnOk P w K mg base (CXx P w) (k + 1) f fd ps sp := by
  obtain ⟨oc, od, kV, doc, pm, an, cdv, ct, osl, rfl, lk, hcd⟩ := F.ex
  refine fn_of lk hcd S len fun A outer s H vs Q E hr hsp => ?_
  obtain ⟨t, h, q⟩ := hbody cdv A outer s H vs Q E hr hsp
  exact ⟨t, h.h, q⟩
section
variable {P : Program} {w : World} {K : PySem.W.Frag} {mg : Str → Option Value} {base : Heap} {N : List Str} {qual : Str} {scope : Scope} {f : Addr} {cd : Value} {A : Around} {outer : List Env} {s₀ : Shared} {H₀ : Hp} {E : XK}
theorem qs_raise {x : Str} {np cpos pos : Pos} {e₀ : Expr} {es : List Expr} {t : TA} {C : Addr} (cl : ExC K C) (hg : Gl (cxOf (CXx P w) P w K mg base N qual scope f cd A outer s₀ H₀ E) x) (hm : mg x = some (.ref C))
    (ha : QA (cxOf (CXx P w) P w K mg base N qual scope f cd A outer s₀ H₀ E) (e₀ :: es) t) (hdb : (x == ("__debug__" : Str)) = false)
    (he : starEach (e₀ :: es) (cxOf (CXx P w) P w K mg base N qual scope f cd A outer s₀ H₀ E).env = (false, eval e₀ (cxOf (CXx P w) P w K mg base N qual scope f cd A outer s₀ H₀ E).env) :: starEach es (cxOf (CXx P w) P w K mg base N qual scope f cd A outer s₀ H₀ E).env := by rfl)
    (hpl : (backTo cpos (starEach es (cxOf (CXx P w) P w K mg base N qual scope f cd A outer s₀ H₀ E).env)).any (·.1) = false := by rfl) :
    QS (cxOf (CXx P w) P w K mg base N qual scope f cd A outer s₀ H₀ E) (.Raise (some (.Call (.Name x np) (e₀ :: es) [] cpos)) none pos) (tRaise C E t) := ⟨ps_raise cl hg hm ha.h hdb he hpl⟩
end
section
variable {X : Cx} {CX : CXT} {k : Nat} {f : Addr} {fd : FuncData} {ps : List Str} {sp : Sp} {dvs : List V} {ds : List Value} {E : St → XK} {x : Str} {p pos : Pos} {e : Expr} {es : List Expr} {t : TA}
noncomputable def tCallX (sp : Sp) (dvs : List V) (E : St → XK) (t : TA) : TE := fun σ H Q => t σ H fun vs H1 => sp (vs ++ dvs) H1 Q (E σ)
theorem run_fnX {pins : List (Addr × Obj)} {σ : St} {H : Hp} {s : Shared} {Q : VK} {us : List Value} {vs : List V} (F : FnOk X.prog X.w X.K X.mg X.base CX k f fd ps sp) (hr : Room k X.A) (hb : Binds X.K fd ps ds) (hd : Vals dvs ds) (hx : PassX CX X E)
    (I : Inv X pins σ H s) (r : Vals vs us) (h : sp (vs ++ dvs) H Q (E σ)) : wpAny (model X.prog X.w) X.A (call (.ref f) us) (EP X pins σ Q) X.xe s := by
  have r2 : Vals (vs ++ dvs) (us ++ ds) := r.append hd
  have hl : (us ++ ds).length = ps.length := by rw [← r2.length]; exact F.len _ _ _ _ h
  refine wpAny_call (codeAny_mono (F.run X.A X.stack s H ⟨us, []⟩ (us ++ ds) (vs ++ dvs) Q (E σ) hr I.env0 (hb s us I.kIn hl) r2 h) fun r s' hq => ?_)
  cases r with
  | error e => exact hx pins σ H s e s' I hq
  | ok fl =>
    cases fl with
    | ret u => exact I.after hq
    | next => exact False.elim hq
    | brk => exact False.elim hq
    | cont => exact False.elim hq
theorem qe_callX (F : FnOk X.prog X.w X.K X.mg X.base CX k f fd ps sp) (hr : Room k X.A) (hg : Gl X x) (hm : X.mg x = some (.ref f)) (hk : PySem.W.keepIn X.K (.ref f) = true) (hb : Binds X.K fd ps ds) (hd : Vals dvs ds) (hx : PassX CX X E)
    (ha : QA X (e :: es) t) (hdb : (x == ("__debug__" : Str)) = false) (he : starEach (e :: es) X.env = (false, eval e X.env) :: starEach es X.env := by rfl) (hpl : (backTo pos (starEach es X.env)).any (·.1) = false := by rfl) :
    QE X (.Call (.Name x p) (e :: es) [] pos) (tCallX sp dvs E t) := ⟨by
  intro pins s σ H Q I h
  refine wpAny_Call_Name_kw (ld_glob I hg hm ?_ hdb)
  refine PySem.W.callWith_K (h₀ := X.base) I.ok.mod.kin hk (thn (ha.h pos pins s σ H _ I h) fun us s1 ⟨vs, H1, I1, r, q⟩ => ⟨I1.kIn, ?_⟩) he hpl
  exact run_fnX F hr hb hd hx I1 r q⟩
theorem qs_try_as {n : Str} {i : Nat} {C : Addr} {np hpos pos : Pos} {body suite : List Stmt} {b₀ : Stmt} {tb : (St → XK) → TS} {th : TS} (hex : X.ex = []) (hst : X.stack = X.env :: X.outer) (hfr : X.env.frame = some X.env.locals) (hN : X.N.Nodup) (hi : X.N[i]? = some n) (hl : X.env.scope.names.lookup n = some .local) (hg : Gl X x) (hm : X.mg x = some (.ref C))
    (hb : ∀ pn xe (E : St → XK), PassX (CXx X.prog X.w) (X.tryd pn xe) E → QSs (X.tryd pn xe) body (tb E)) (hs : ∀ e, QSs (X.held e) (b₀ :: suite) th) (hdb : (x == ("__debug__" : Str)) = false) :
    QS X (.Try body [.ExceptHandler (some (.Name x np)) (some n) (b₀ :: suite) hpos] [] [] pos) (tTry X.K C i tb th) := ⟨ps_try_as hex hst hfr hN hi hl hg hm (fun pn xe E h => (hb pn xe E h).h) (fun e => (hs e).h) hdb⟩
end
end L2
namespace RB
open PySem L2 PySem.Spec PyProof.Rows
end RB

set_option maxRecDepth 100000
namespace RB
open PySem L2 PySem.Spec PyProof.Rows
/-! ### the reader's mirror: what is read of a row of signs, and what is left -/
/-! ### the reader's state: the rest of its text -/
end RB

set_option maxRecDepth 100000
namespace RB
open PySem L2 PySem.Spec PyProof.Rows
end RB

set_option maxRecDepth 100000
namespace RB
open PySem L2 PySem.Spec PyProof.Rows
end RB

set_option maxRecDepth 100000
namespace RB
open PySem L2 PySem.Spec PyProof.Rows
/-! ### names in what is read -/
/-! ### read_recipe of anything -/
/-! ### texts that write none -/
/-! ### sums of a -/
end RB

set_option maxRecDepth 100000
namespace L2
open PySem PySem.Spec PyProof.Rows
end L2
namespace RB
open PySem L2 PySem.Spec PyProof.Rows
/-! ### rows of sums, as texts -/
end RB

set_option maxRecDepth 100000
namespace RB
open PySem L2 PySem.Spec PyProof.Rows PySem.NumText
/-! ### what the mirror reads, written again -/
end RB

set_option maxRecDepth 100000
namespace RB
open PySem L2 PySem.Spec PyProof.Rows PySem.NumText
/-! ### what is written is read -/
end RB

set_option maxRecDepth 100000
namespace L2
open PySem PySem.Spec PyProof.Rows
/-! ### try / except C, with no name -/
section
variable {X : Cx} {x : Str} {C : Addr} {np hpos pos : Pos} {body suite : List Stmt} {b₀ : Stmt} {tb : (St → XK) → TS} {th : TS}
end
end L2

set_option maxRecDepth 100000
namespace RB
open PySem L2 PySem.Spec PyProof.Rows
/-! ### a set of texts -/
section
variable {prog : Program} {w : World} {A : Around} {R : Result → Shared → Prop} {I : Addr} {fp wr : List Addr} {G : Array GenState → Array GenState → Prop} {n : Nat} {P : Nat → Value → Prop} {St : Nat → Shared → Prop}
end
end RB

set_option maxRecDepth 100000
namespace RB
open PySem L2 PySem.Spec PyProof.Rows
section
variable {prog : Program} {w : World} {A : Around} {E : Value → Shared → Prop} {s : Shared}
set_option maxHeartbeats 3200000 in
end
end RB

set_option maxRecDepth 100000
namespace L2
open PySem PySem.Spec PyProof.Rows RB
section
variable {X : Cx}
/-! ### startswith, endswith of a whole text -/
end
end L2

set_option maxRecDepth 100000
namespace L2
open PySem PySem.Spec PyProof.Rows
section
variable {X : Cx} {pins : List (Addr × Obj)} {σ : List (Option V)} {H : Hp} {s : Shared} {h' : Heap}
end
/-! ### for .., .. in zip(a, b) -/
end L2

set_option maxRecDepth 100000
namespace L2
open PySem PySem.Spec PyProof.Rows
section
variable {prog : Program} {w : World} {A : Around} {E : Value → Shared → Prop}
/-! ### a, b, c = a list -/
end
section
variable {X : Cx} {pos : Pos}
theorem qc_max2 (hc : X.calm = true) : QCall X (.builtin "max") (fun xs H Q => ∃ i j, xs = [.int i, .int j] ∧ Q (.int (if j > i then j else i)) H) := ⟨call_max2 hc⟩
theorem qc_min2 (hc : X.calm = true) : QCall X (.builtin "min") (fun xs H Q => ∃ i j, xs = [.int i, .int j] ∧ Q (.int (if j < i then j else i)) H) := ⟨call_min2 hc⟩
/-- a call that is known not to raise, in a def that raises nothing -/
theorem passF : PassX (CXx X.prog X.w) X (fun _ _ _ _ => False) := fun pins σ H s e s' I h => by
  obtain ⟨a, cls, H', _, _, z⟩ := h
  exact z.elim
end
end L2
namespace RB
open PySem L2 PySem.Spec PyProof.Rows
end RB

set_option maxRecDepth 100000
namespace L2
open PySem PySem.Spec PyProof.Rows
end L2
namespace RB
open PySem L2 PySem.Spec PyProof.Rows
end RB

set_option maxRecDepth 100000
namespace RB
open PySem L2 PySem.Spec PyProof.Rows
end RB

set_option maxRecDepth 100000
namespace RB
open PySem L2 PySem.Spec PyProof.Rows
end RB

set_option maxRecDepth 100000
namespace RB
open PySem L2 PySem.Spec PyProof.Rows
/-! ### reads: rows of (name, number) -/
noncomputable abbrev Rdp := Str × Int
noncomputable def rdV (p : Rdp) : List V := [.str p.1, .int p.2]
inductive IsRds (H : Hp) : List Addr → List Rdp → Prop where
  | nil : IsRds H [] []
  | cons {a : Addr} {p : Rdp} {as : List Addr} {ps : List Rdp} (h : H a = some (.tup (rdV p))) (t : IsRds H as ps) : IsRds H (a :: as) (p :: ps)
theorem IsRds.tups {H H' : Hp} (t : Tups H H') {as : List Addr} {ps : List Rdp} (h : IsRds H as ps) : IsRds H' as ps := by
  induction h with
  | nil => exact .nil
  | cons h _ ih => exact .cons (t _ _ h) ih
theorem IsRds.same {H H' : Hp} (s : Same H H') {as : List Addr} {ps : List Rdp} (h : IsRds H as ps) : IsRds H' as ps := h.tups (Same.tups s)
theorem IsRds.length {H : Hp} {as : List Addr} {ps : List Rdp} (h : IsRds H as ps) : as.length = ps.length := by
  induction h with
  | nil => rfl
  | cons _ _ ih => simp [ih]
theorem IsRds.snoc {H : Hp} {a : Addr} {p : Rdp} (h : H a = some (.tup (rdV p))) : ∀ {as : List Addr} {ps : List Rdp}, IsRds H as ps → IsRds H (as ++ [a]) (ps ++ [p])
  | _, _, .nil => .cons h .nil
  | _, _, .cons h' t => .cons h' (t.snoc h)
theorem IsRds.take {H : Hp} {as : List Addr} {ps : List Rdp} (h : IsRds H as ps) : ∀ k, IsRds H (as.take k) (ps.take k) := by
  induction h with
  | nil => intro k; rw [List.take_nil, List.take_nil]; exact .nil
  | cons h _ ih =>
    intro k
    cases k with
    | zero => exact .nil
    | succ k => exact .cons h (ih k)
theorem IsRds.drop {H : Hp} {as : List Addr} {ps : List Rdp} (h : IsRds H as ps) : ∀ k, IsRds H (as.drop k) (ps.drop k) := by
  induction h with
  | nil => intro k; rw [List.drop_nil, List.drop_nil]; exact .nil
  | cons h t ih =>
    intro k
    cases k with
    | zero => exact .cons h t
    | succ k => exact ih k
theorem IsRds.get {H : Hp} {as : List Addr} {ps : List Rdp} (h : IsRds H as ps) : ∀ (i : Nat) (a : Addr), as[i]? = some a → ∃ p, ps[i]? = some p ∧ H a = some (.tup (rdV p)) := by
  induction h with
  | nil => intro i a e; simp at e
  | @cons b p as ps h t ih =>
    intro i a e
    cases i with
    | zero => have : b = a := by simpa using e
              subst this; exact ⟨_, rfl, h⟩
    | succ i => exact ih i a (by simpa using e)
/-- the k-th of a row of refs -/
theorem ref_at {as : List Addr} {i : Nat} {x : V} (h : (as.map V.ref)[i]? = some x) : ∃ a, as[i]? = some a ∧ x = .ref a := by
  rw [List.getElem?_map] at h
  cases e : as[i]? with
  | none => rw [e] at h; cases h
  | some a => rw [e] at h; cases h; exact ⟨a, rfl, rfl⟩
end RB
namespace RB
open PySem L2 PySem.Spec PyProof.Rows
end RB

set_option maxRecDepth 100000
namespace L2
open PySem PySem.Spec PyProof.Rows
theorem qg_tupK {X : Cx} {es : List Expr} {pos : Pos} {K : PySem.W.Frag} {k n : Nat} {t : TGs} (eK : X.K = K) (hc : X.calm = true) (h : QGs X es t) (hn : (assignEach es X.env).length = n := by rfl) (hst : (assignEach es X.env).findIdx? (·.1) = none := by rfl) : QG X (.Tuple es k pos) (gTup K n t) := eK ▸ qg_tup hc h hn hst
end L2
namespace RB
open PySem L2 PySem.Spec PyProof.Rows
theorem SqL.same {K : PySem.W.Frag} {H H' : Hp} {a : Addr} {xs : List V} (s : Same H H') (h : SqL K H a xs) : SqL K H' a xs := by
  rcases h with (e | ⟨o, e⟩) | h
  · exact .inl (.inl (s _ _ e))
  · exact .inl (.inr ⟨o, s _ _ e⟩)
  · exact .inr h
theorem but_same {S : List Addr} {H0 H H' : Hp} (s : Same H0 H) (hS : ∀ p ∈ S, H0 p = none) (b : But S H H') : Same H0 H' := fun a o e => b a o (fun z => by rw [hS a z] at e; cases e) (s a o e)
/-! ### the law's names -/
end RB

set_option maxRecDepth 100000
namespace RB
open PySem L2 PySem.Spec PyProof.Rows
/-! ### worths known so far, and what a recipe comes to by them -/
noncomputable abbrev Kn := Str → Option Int
noncomputable def Kn.put (kn : Kn) (x : Str) (v : Int) : Kn := fun y => if y = x then some v else kn y
noncomputable def Kn.puts : Kn → List Rdp → Kn
  | kn, [] => kn
  | kn, p :: ps => (kn.put p.1 p.2).puts ps
noncomputable def Kn.Le (kn kn' : Kn) : Prop := ∀ x v, kn x = some v → kn' x = some v
theorem Kn.Le.refl (kn : Kn) : Kn.Le kn kn := fun _ _ h => h
theorem Kn.Le.trans {a b c : Kn} (h : Kn.Le a b) (g : Kn.Le b c) : Kn.Le a c := fun x v z => g x v (h x v z)
theorem Kn.le_put {kn : Kn} {x : Str} {v : Int} (h : kn x = none) : Kn.Le kn (kn.put x v) := fun y u z => by
  unfold Kn.put
  rw [if_neg (fun e => by rw [e, h] at z; cases z)]; exact z
noncomputable def Op.ap : Op → Int → Int → Int
  | .plus, u, v => u + v
  | .minus, u, v => u - v
  | .times, u, v => u * v
  | .most, u, v => if v > u then v else u
noncomputable def pickN (ns : List Str) (u : Int) : Option Str := ns[(u % (ns.length : Int)).toNat]?
noncomputable def look (kn : Kn) (x : Str) : Str ⊕ Int := match kn x with
  | some v => .inr v
  | none => .inl x
/-- the worth, or the first name that is looked for and not known -/
noncomputable def ev (kn : Kn) : R → Str ⊕ Int
  | .num n => .inr n
  | .rd x => look kn x
  | .bin op a b => match ev kn a with
    | .inl x => .inl x
    | .inr u => match ev kn b with
      | .inl x => .inl x
      | .inr v => .inr (op.ap u v)
  | .pick a b c => match ev kn a with
    | .inl x => .inl x
    | .inr u => if u > 0 then ev kn b else ev kn c
  | .cho a ns => match ev kn a with
    | .inl x => .inl x
    | .inr u => match pickN ns u with
      | none => .inr 0
      | some x => look kn x
theorem look_le {kn kn' : Kn} (h : Kn.Le kn kn') {x : Str} {v : Int} (e : look kn x = .inr v) : look kn' x = .inr v := by
  unfold look at e ⊢
  cases z : kn x with
  | none => rw [z] at e; cases e
  | some u => rw [z] at e; rw [h x u z]; exact e
theorem look_none {kn : Kn} {x y : Str} (e : look kn x = .inl y) : y = x ∧ kn x = none := by
  unfold look at e
  cases z : kn x with
  | none => rw [z] at e; cases e; exact ⟨rfl, rfl⟩
  | some u => rw [z] at e; cases e
theorem ev_none {kn : Kn} : ∀ {r : R} {x : Str}, ev kn r = .inl x → kn x = none
  | .num n, x, h => by cases h
  | .rd y, x, h => by obtain ⟨rfl, h⟩ := look_none h; exact h
  | .bin op a b, x, h => by
    simp only [ev] at h
    cases ea : ev kn a with
    | inl y => rw [ea] at h; cases h; exact ev_none ea
    | inr u =>
      rw [ea] at h
      cases eb : ev kn b with
      | inl y => rw [eb] at h; cases h; exact ev_none eb
      | inr v => rw [eb] at h; cases h
  | .pick a b c, x, h => by
    simp only [ev] at h
    cases ea : ev kn a with
    | inl y => rw [ea] at h; cases h; exact ev_none ea
    | inr u =>
      rw [ea] at h
      simp only at h
      split at h
      · exact ev_none h
      · exact ev_none h
  | .cho a ns, x, h => by
    simp only [ev] at h
    cases ea : ev kn a with
    | inl y => rw [ea] at h; cases h; exact ev_none ea
    | inr u =>
      rw [ea] at h
      simp only at h
      cases ep : pickN ns u with
      | none => rw [ep] at h; cases h
      | some y => rw [ep] at h; obtain ⟨rfl, h⟩ := look_none h; exact h
theorem ev_le {kn kn' : Kn} (hk : Kn.Le kn kn') : ∀ {r : R} {v : Int}, ev kn r = .inr v → ev kn' r = .inr v
  | .num n, v, h => h
  | .rd y, v, h => look_le hk h
  | .bin op a b, v, h => by
    simp only [ev] at h ⊢
    cases ea : ev kn a with
    | inl y => rw [ea] at h; cases h
    | inr u =>
      rw [ea] at h; rw [ev_le hk ea]
      cases eb : ev kn b with
      | inl y => rw [eb] at h; cases h
      | inr w => rw [eb] at h; rw [ev_le hk eb]; exact h
  | .pick a b c, v, h => by
    simp only [ev] at h ⊢
    cases ea : ev kn a with
    | inl y => rw [ea] at h; cases h
    | inr u =>
      rw [ea] at h; rw [ev_le hk ea]
      simp only at h ⊢
      split at h
      · rw [if_pos (by assumption)]; exact ev_le hk h
      · rw [if_neg (by assumption)]; exact ev_le hk h
  | .cho a ns, v, h => by
    simp only [ev] at h ⊢
    cases ea : ev kn a with
    | inl y => rw [ea] at h; cases h
    | inr u =>
      rw [ea] at h; rw [ev_le hk ea]
      simp only at h ⊢
      cases ep : pickN ns u with
      | none => rw [ep] at h; exact h
      | some y => rw [ep] at h; exact look_le hk h
/-! ### the machine -/
inductive Stp where
  | r (r : R) | branch (s t : R) | among (ns : List Str) | join (op : Op)
structure Cf where
  todo : List Stp
  found : List Int
  rds : List Rdp
noncomputable def putR (ps : List Rdp) (x : Str) (v : Int) : List Rdp :=
  if (ps.any fun p => decide (p.1 = x)) = true then ps.map (fun p => if p.1 = x then (p.1, v) else p) else ps ++ [(x, v)]
inductive St1 (kn : Kn) : Cf → Cf → Prop where
  | num {t f d n} : St1 kn ⟨t ++ [.r (.num n)], f, d⟩ ⟨t, f ++ [n], d⟩
  | rd {t f d x v} (h : kn x = some v) : St1 kn ⟨t ++ [.r (.rd x)], f, d⟩ ⟨t, f ++ [v], putR d x v⟩
  | bin {t f d op a b} : St1 kn ⟨t ++ [.r (.bin op a b)], f, d⟩ ⟨t ++ [.join op, .r b, .r a], f, d⟩
  | pick {t f d a b c} : St1 kn ⟨t ++ [.r (.pick a b c)], f, d⟩ ⟨t ++ [.branch b c, .r a], f, d⟩
  | cho {t f d a ns} : St1 kn ⟨t ++ [.r (.cho a ns)], f, d⟩ ⟨t ++ [.among ns, .r a], f, d⟩
  | branch {t f d b c v} : St1 kn ⟨t ++ [.branch b c], f ++ [v], d⟩ ⟨t ++ [.r (if v > 0 then b else c)], f, d⟩
  | among {t f d ns v x} (h : pickN ns v = some x) : St1 kn ⟨t ++ [.among ns], f ++ [v], d⟩ ⟨t ++ [.r (.rd x)], f, d⟩
  | join {t f d op u v} (h : op = .times → CMul u v) : St1 kn ⟨t ++ [.join op], f ++ [u, v], d⟩ ⟨t, f ++ [op.ap u v], d⟩
inductive StN (kn : Kn) : Nat → Cf → Cf → Prop where
  | zero {c} : StN kn 0 c c
  | succ {n c c1 c2} (h : St1 kn c c1) (t : StN kn n c1 c2) : StN kn (n + 1) c c2
theorem StN.add {kn : Kn} {n m : Nat} {a b c : Cf} (h : StN kn n a b) (g : StN kn m b c) : StN kn (n + m) a c := by
  induction h with
  | zero => rw [Nat.zero_add]; exact g
  | succ h _ ih => rw [Nat.succ_add]; exact .succ h (ih g)
theorem St1.le {kn kn' : Kn} (hk : Kn.Le kn kn') {a b : Cf} (h : St1 kn a b) : St1 kn' a b := by
  cases h with
  | num => exact .num
  | rd h => exact .rd (hk _ _ h)
  | bin => exact .bin
  | pick => exact .pick
  | cho => exact .cho
  | branch => exact .branch
  | among h => exact .among h
  | join h => exact .join h
theorem StN.le {kn kn' : Kn} (hk : Kn.Le kn kn') {n : Nat} {a b : Cf} (h : StN kn n a b) : StN kn' n a b := by
  induction h with
  | zero => exact .zero
  | succ h _ ih => exact .succ (h.le hk) ih
theorem snoc_inj {α : Type} {s t : List α} {x y : α} (h : s ++ [x] = t ++ [y]) : s = t ∧ x = y := by
  have := List.append_inj' h rfl
  exact ⟨this.1, by simpa using this.2⟩
theorem snoc2_inj {α : Type} {s t : List α} {x y u v : α} (h : s ++ [x, y] = t ++ [u, v]) : s = t ∧ x = u ∧ y = v := by
  have := List.append_inj' h rfl
  exact ⟨this.1, by simpa using this.2⟩
noncomputable def St1.Inv (kn : Kn) (f : List Int) (d : List Rdp) (t : List Stp) (c' : Cf) : Stp → Prop
  | .r (.num n) => c' = ⟨t, f ++ [n], d⟩
  | .r (.rd x) => ∃ v, kn x = some v ∧ c' = ⟨t, f ++ [v], putR d x v⟩
  | .r (.bin op a b) => c' = ⟨t ++ [.join op, .r b, .r a], f, d⟩
  | .r (.pick a b c) => c' = ⟨t ++ [.branch b c, .r a], f, d⟩
  | .r (.cho a ns) => c' = ⟨t ++ [.among ns, .r a], f, d⟩
  | .branch b c => ∃ g v, f = g ++ [v] ∧ c' = ⟨t ++ [.r (if v > 0 then b else c)], g, d⟩
  | .among ns => ∃ g v x, f = g ++ [v] ∧ pickN ns v = some x ∧ c' = ⟨t ++ [.r (.rd x)], g, d⟩
  | .join op => ∃ g u v, f = g ++ [u, v] ∧ (op = .times → CMul u v) ∧ c' = ⟨t, g ++ [op.ap u v], d⟩
theorem St1.inv {kn : Kn} {c c' : Cf} (h : St1 kn c c') : ∀ t s, c.todo = t ++ [s] → St1.Inv kn c.found c.rds t c' s := by
  cases h with
  | num => intro t s e; obtain ⟨rfl, rfl⟩ := snoc_inj e; exact rfl
  | rd h => intro t s e; obtain ⟨rfl, rfl⟩ := snoc_inj e; exact ⟨_, h, rfl⟩
  | bin => intro t s e; obtain ⟨rfl, rfl⟩ := snoc_inj e; exact rfl
  | pick => intro t s e; obtain ⟨rfl, rfl⟩ := snoc_inj e; exact rfl
  | cho => intro t s e; obtain ⟨rfl, rfl⟩ := snoc_inj e; exact rfl
  | branch => intro t s e; obtain ⟨rfl, rfl⟩ := snoc_inj e; exact ⟨_, _, rfl, rfl⟩
  | among h => intro t s e; obtain ⟨rfl, rfl⟩ := snoc_inj e; exact ⟨_, _, _, rfl, h, rfl⟩
  | join h => intro t s e; obtain ⟨rfl, rfl⟩ := snoc_inj e; exact ⟨_, _, _, rfl, h, rfl⟩
theorem St1.det {kn : Kn} {a b c : Cf} (h : St1 kn a b) (g : St1 kn a c) : b = c := by
  cases h with
  | num => exact (g.inv _ _ rfl).symm
  | rd h =>
    obtain ⟨v, e, z⟩ := g.inv _ _ rfl
    rw [h] at e; cases e; exact z.symm
  | bin => exact (g.inv _ _ rfl).symm
  | pick => exact (g.inv _ _ rfl).symm
  | cho => exact (g.inv _ _ rfl).symm
  | branch =>
    obtain ⟨f, v, e, z⟩ := g.inv _ _ rfl
    obtain ⟨rfl, rfl⟩ := snoc_inj e
    exact z.symm
  | among h =>
    obtain ⟨f, v, x, e, hx, z⟩ := g.inv _ _ rfl
    obtain ⟨rfl, rfl⟩ := snoc_inj e
    rw [h] at hx; cases hx; exact z.symm
  | join h =>
    obtain ⟨f, u, v, e, _, z⟩ := g.inv _ _ rfl
    obtain ⟨rfl, rfl, rfl⟩ := snoc2_inj e
    exact z.symm
/-- where the machine stands still -/
noncomputable def Halt (kn : Kn) (c : Cf) : Prop := c.todo = [] ∨ ∃ t x, c.todo = t ++ [.r (.rd x)] ∧ kn x = none
theorem Halt.no {kn : Kn} {c c' : Cf} (h : Halt kn c) (g : St1 kn c c') : False := by
  rcases h with h | ⟨t, x, h, hx⟩
  · cases g <;> simp at h
  · obtain ⟨v, e, _⟩ := g.inv _ _ h
    rw [hx] at e; cases e
/-- one that is on the way to the end goes on to it -/
theorem StN.rest {kn : Kn} {n m : Nat} {a b c : Cf} (h : StN kn n a b) (g : StN kn m a c) (hc : Halt kn c) : ∃ k, StN kn k b c := by
  induction h generalizing m with
  | zero => exact ⟨m, g⟩
  | succ h _ ih =>
    cases g with
    | zero => exact (hc.no h).elim
    | succ h' g' => rw [← h.det h'] at g'; exact ih g'
/-! ### recipes whose products are no wall -/
noncomputable def Leaf : R → Prop
  | .num n => -(2 ^ 63) < n ∧ n < 2 ^ 63
  | .rd _ => True
  | _ => False
noncomputable def R.Tm : R → Prop
  | .num _ => True
  | .rd _ => True
  | .bin op a b => a.Tm ∧ b.Tm ∧ (op = .times → Leaf b)
  | .pick a b c => a.Tm ∧ b.Tm ∧ c.Tm
  | .cho a ns => a.Tm ∧ 1 ≤ ns.length
noncomputable def Kn.Sm (kn : Kn) : Prop := ∀ x v, kn x = some v → -(2 ^ 63) < v ∧ v < 2 ^ 63
theorem leaf_small {kn : Kn} (hk : kn.Sm) {b : R} (hb : Leaf b) {v : Int} (h : ev kn b = .inr v) : -(2 ^ 63) < v ∧ v < 2 ^ 63 := by
  cases b with
  | num n => cases h; exact hb
  | rd x =>
    have h : look kn x = .inr v := h
    unfold look at h
    cases e : kn x with
    | none => rw [e] at h; cases h
    | some u => rw [e] at h; cases h; exact hk x _ e
  | bin op a b => exact hb.elim
  | pick a b c => exact hb.elim
  | cho a ns => exact hb.elim
theorem pick_some {ns : List Str} (h : 1 ≤ ns.length) (u : Int) : ∃ x, pickN ns u = some x := by
  unfold pickN
  have h1 : (u % (ns.length : Int)).toNat < ns.length := by
    have := Int.emod_nonneg u (show (ns.length : Int) ≠ 0 by omega)
    have := Int.emod_lt_of_pos u (show (0 : Int) < ns.length by omega)
    omega
  exact ⟨_, List.getElem?_eq_getElem h1⟩
noncomputable def Ends (kn : Kn) (r : R) (t : List Stp) (f : List Int) (d : List Rdp) : Prop := match ev kn r with
  | .inr v => ∃ n d', StN kn n ⟨t ++ [.r r], f, d⟩ ⟨t, f ++ [v], d'⟩
  | .inl x => ∃ n t' f' d', StN kn n ⟨t ++ [.r r], f, d⟩ ⟨t' ++ [.r (.rd x)], f', d'⟩ ∧ kn x = none
theorem ends_rd {kn : Kn} {x : Str} {t : List Stp} {f : List Int} {d : List Rdp} : Ends kn (.rd x) t f d := by
  unfold Ends
  show match look kn x with
    | .inr v => _
    | .inl y => _
  unfold look
  cases e : kn x with
  | none => exact ⟨0, t, f, d, .zero, e⟩
  | some v => exact ⟨1, _, .succ (.rd e) .zero⟩
theorem ends_ok {kn : Kn} (hk : kn.Sm) : ∀ (r : R), r.Tm → ∀ t f d, Ends kn r t f d
  | .num n, _, t, f, d => ⟨1, _, .succ .num .zero⟩
  | .rd x, _, t, f, d => ends_rd
  | .bin op a b, h, t, f, d => by
    have ha := ends_ok hk a h.1 (t ++ [.join op, .r b]) f d
    unfold Ends at ha ⊢
    rw [List.append_assoc] at ha
    simp only [ev]
    cases ea : ev kn a with
    | inl x =>
      rw [ea] at ha
      obtain ⟨n, t', f', d', s, hx⟩ := ha
      exact ⟨n + 1, t', f', d', .succ .bin s, hx⟩
    | inr u =>
      rw [ea] at ha
      obtain ⟨n, d', s⟩ := ha
      have hb := ends_ok hk b h.2.1 (t ++ [.join op]) (f ++ [u]) d'
      unfold Ends at hb
      rw [List.append_assoc] at hb
      cases eb : ev kn b with
      | inl x =>
        rw [eb] at hb
        obtain ⟨m, t', f', d2, s2, hx⟩ := hb
        exact ⟨n + m + 1, t', f', d2, .succ .bin (s.add s2), hx⟩
      | inr v =>
        rw [eb] at hb
        obtain ⟨m, d2, s2⟩ := hb
        refine ⟨n + (m + 1) + 1, d2, .succ .bin (s.add (s2.add (.succ ?_ .zero)))⟩
        rw [List.append_assoc]
        exact .join fun z => .inr (by have := leaf_small hk (h.2.2 z) eb; omega)
  | .pick a b c, h, t, f, d => by
    have ha := ends_ok hk a h.1 (t ++ [.branch b c]) f d
    unfold Ends at ha ⊢
    rw [List.append_assoc] at ha
    simp only [ev]
    cases ea : ev kn a with
    | inl x =>
      rw [ea] at ha
      obtain ⟨n, t', f', d', s, hx⟩ := ha
      exact ⟨n + 1, t', f', d', .succ .pick s, hx⟩
    | inr u =>
      rw [ea] at ha
      obtain ⟨n, d', s⟩ := ha
      have hb : Ends kn (if u > 0 then b else c) t f d' := by
        split
        · exact ends_ok hk b h.2.1 t f d'
        · exact ends_ok hk c h.2.2 t f d'
      unfold Ends at hb
      simp only
      have e : (if u > 0 then ev kn b else ev kn c) = ev kn (if u > 0 then b else c) := by split <;> rfl
      rw [e]
      cases eb : ev kn (if u > 0 then b else c) with
      | inl x =>
        rw [eb] at hb
        obtain ⟨m, t', f', d2, s2, hx⟩ := hb
        exact ⟨n + (m + 1) + 1, t', f', d2, .succ .pick (s.add (.succ .branch s2)), hx⟩
      | inr v =>
        rw [eb] at hb
        obtain ⟨m, d2, s2⟩ := hb
        exact ⟨n + (m + 1) + 1, d2, .succ .pick (s.add (.succ .branch s2))⟩
  | .cho a ns, h, t, f, d => by
    have ha := ends_ok hk a h.1 (t ++ [.among ns]) f d
    unfold Ends at ha ⊢
    rw [List.append_assoc] at ha
    simp only [ev]
    cases ea : ev kn a with
    | inl x =>
      rw [ea] at ha
      obtain ⟨n, t', f', d', s, hx⟩ := ha
      exact ⟨n + 1, t', f', d', .succ .cho s, hx⟩
    | inr u =>
      rw [ea] at ha
      obtain ⟨n, d', s⟩ := ha
      obtain ⟨y, ey⟩ := pick_some h.2 u
      simp only
      rw [ey]
      have hb := ends_rd (kn := kn) (x := y) (t := t) (f := f) (d := d')
      unfold Ends at hb
      simp only [ev] at hb
      simp only
      cases eb : look kn y with
      | inl x =>
        rw [eb] at hb
        obtain ⟨m, t', f', d2, s2, hx⟩ := hb
        exact ⟨n + (m + 1) + 1, t', f', d2, .succ .cho (s.add (.succ (.among ey) s2)), hx⟩
      | inr v =>
        rw [eb] at hb
        obtain ⟨m, d2, s2⟩ := hb
        exact ⟨n + (m + 1) + 1, d2, .succ .cho (s.add (.succ (.among ey) s2))⟩
end RB
namespace RB
open PySem L2 PySem.Spec PyProof.Rows
/-! ### on the way -/
noncomputable def Reach (kn : Kn) (r : R) (c : Cf) : Prop := ∃ n, StN kn n ⟨[.r r], [], []⟩ c
theorem Reach.le {kn kn' : Kn} (h : Kn.Le kn kn') {r : R} {c : Cf} (g : Reach kn r c) : Reach kn' r c := by
  obtain ⟨n, g⟩ := g
  exact ⟨n, g.le h⟩
noncomputable def Told (kn : Kn) (r : R) (c : Cf) : Prop := match ev kn r with
  | .inr v => c.todo = [] ∧ c.found = [v]
  | .inl x => ∃ t, c.todo = t ++ [.r (.rd x)]
theorem Reach.goes {kn : Kn} (hk : kn.Sm) {r : R} (hr : r.Tm) {c : Cf} (g : Reach kn r c) : ∃ n c', StN kn n c c' ∧ Halt kn c' ∧ Reach kn r c' ∧ Told kn r c' := by
  have h := ends_ok hk r hr [] [] []
  unfold Ends at h
  unfold Told
  obtain ⟨m, g⟩ := g
  cases e : ev kn r with
  | inr v =>
    rw [e] at h
    obtain ⟨n, d, s⟩ := h
    obtain ⟨k, t⟩ := g.rest s (.inl rfl)
    exact ⟨k, _, t, .inl rfl, ⟨n, s⟩, rfl, rfl⟩
  | inl x =>
    rw [e] at h
    obtain ⟨n, t', f', d', s, hx⟩ := h
    have hh : Halt kn ⟨t' ++ [.r (.rd x)], f', d'⟩ := .inr ⟨t', x, rfl, hx⟩
    obtain ⟨k, t⟩ := g.rest s hh
    exact ⟨k, _, t, hh, ⟨n, s⟩, t', rfl⟩
/-! ### what a recipe does behind reads -/
noncomputable def bh (r : R) : Kn → List Rdp → Option (Str ⊕ Int)
  | kn, [] => some (ev kn r)
  | kn, p :: ps => match ev kn r with
    | .inl x => if x = p.1 then bh r (kn.put p.1 p.2) ps else none
    | .inr _ => none
noncomputable def kn0 : Kn := fun _ => none
theorem kn0_sm : kn0.Sm := fun x v h => by cases h
theorem Kn.Sm.put {kn : Kn} (h : kn.Sm) {x : Str} {v : Int} (hv : -(2 ^ 63) < v ∧ v < 2 ^ 63) : (kn.put x v).Sm := fun y u e => by
  unfold Kn.put at e
  split at e
  · cases e; exact hv
  · exact h y u e
theorem bh_nil (r : R) (kn : Kn) : bh r kn [] = some (ev kn r) := rfl
theorem bh_cons (r : R) (kn : Kn) (p : Rdp) (ps : List Rdp) : bh r kn (p :: ps) = match ev kn r with
    | .inl x => if x = p.1 then bh r (kn.put p.1 p.2) ps else none
    | .inr _ => none := rfl
end RB

set_option maxRecDepth 100000
namespace L2
open PySem PySem.Spec PyProof.Rows
section
variable {X : Cx} {i o : Expr} {ty td : TE} {pos : Pos}
theorem qt_din (hu : X.A.units + 1 < cLine) (hi : QE X i ty) (ho : QE X o td) (h1 : behindInMarks .In o = false := by rfl) : QT X (.Compare i [.In] [o] pos) (tB (tDIn ty td)) := ⟨pt_cmp (pc_din hu hi.h ho.h) h1⟩
end
end L2
namespace RB
open PySem L2 PySem.Spec PyProof.Rows
/-! ### steps on the heap -/
inductive IsSt (H : Hp) : V → Stp → Prop where
  | r {a : Addr} {r : R} (h : IsR H a r) : IsSt H (.ref a) (.r r)
  | branch {a b c : Addr} {s t : R} (e : H a = some (.tup [.str "branch", .ref b, .ref c])) (h1 : IsR H b s) (h2 : IsR H c t) : IsSt H (.ref a) (.branch s t)
  | among {a b : Addr} {ns : List Str} (e : H a = some (.tup [.str "among", .ref b])) (h : H b = some (.tup (ns.map V.str))) : IsSt H (.ref a) (.among ns)
  | join {a : Addr} {op : Op} (e : H a = some (.tup [.str "join", .str op.word])) : IsSt H (.ref a) (.join op)
theorem IsSt.tups {H H' : Hp} (t : Tups H H') {v : V} {s : Stp} (h : IsSt H v s) : IsSt H' v s := by
  cases h with
  | r h => exact .r (h.tups t)
  | branch e h1 h2 => exact .branch (t _ _ e) (h1.tups t) (h2.tups t)
  | among e h => exact .among (t _ _ e) (t _ _ h)
  | join e => exact .join (t _ _ e)
inductive IsSts (H : Hp) : List V → List Stp → Prop where
  | nil : IsSts H [] []
  | cons {v : V} {s : Stp} {vs : List V} {ss : List Stp} (h : IsSt H v s) (t : IsSts H vs ss) : IsSts H (v :: vs) (s :: ss)
theorem IsSts.tups {H H' : Hp} (t : Tups H H') {vs : List V} {ss : List Stp} (h : IsSts H vs ss) : IsSts H' vs ss := by
  induction h with
  | nil => exact .nil
  | cons h _ ih => exact .cons (h.tups t) ih
theorem IsSts.app {H : Hp} : ∀ {vs ws : List V} {ss ts : List Stp}, IsSts H vs ss → IsSts H ws ts → IsSts H (vs ++ ws) (ss ++ ts)
  | _, _, _, _, .nil, h => h
  | _, _, _, _, .cons h' t, h => .cons h' (t.app h)
theorem IsSts.snoc {H : Hp} {s : Stp} : ∀ {ss : List Stp} {vs : List V}, IsSts H vs (ss ++ [s]) → ∃ us v, vs = us ++ [v] ∧ IsSts H us ss ∧ IsSt H v s
  | [], _, h => by
    cases h with
    | cons h t => cases t; exact ⟨[], _, rfl, .nil, h⟩
  | s0 :: ss, _, h => by
    cases h with
    | cons h t =>
      obtain ⟨us, v, rfl, h1, h2⟩ := IsSts.snoc (ss := ss) t
      exact ⟨_ :: us, v, rfl, .cons h h1, h2⟩
theorem IsSts.length {H : Hp} {vs : List V} {ss : List Stp} (h : IsSts H vs ss) : vs.length = ss.length := by
  induction h with
  | nil => rfl
  | cons _ _ ih => simp [ih]
/-! ### how much is left -/
noncomputable def wR : R → Nat
  | .num _ => 1
  | .rd _ => 1
  | .bin _ a b => wR a + wR b + 2
  | .pick a b c => wR a + wR b + wR c + 2
  | .cho a _ => wR a + 3
noncomputable def wS : Stp → Nat
  | .r r => wR r
  | .branch s t => wR s + wR t + 1
  | .among _ => 2
  | .join _ => 1
noncomputable def wT (t : List Stp) : Nat := (t.map wS).sum
noncomputable def Cf.w (c : Cf) : Nat := c.rds.length + c.found.length + 2 * wT c.todo
theorem wT_app (s t : List Stp) : wT (s ++ t) = wT s + wT t := by unfold wT; rw [List.map_append, List.sum_append]
theorem wR_pos : ∀ r : R, 1 ≤ wR r
  | .num _ => Nat.le_refl _
  | .rd _ => Nat.le_refl _
  | .bin _ a b => by show 1 ≤ wR a + wR b + 2; omega
  | .pick a b c => by show 1 ≤ wR a + wR b + wR c + 2; omega
  | .cho a _ => by show 1 ≤ wR a + 3; omega
theorem wS_pos (s : Stp) : 1 ≤ wS s := by
  cases s with
  | r r => exact wR_pos r
  | branch s t => show 1 ≤ wR s + wR t + 1; omega
  | among ns => exact (by decide : 1 ≤ 2)
  | join op => exact Nat.le_refl _
theorem len_wT : ∀ t : List Stp, t.length ≤ wT t
  | [] => Nat.le_refl _
  | s :: t => by
    have := len_wT t
    have := wS_pos s
    show t.length + 1 ≤ wS s + wT t
    omega
theorem putR_len (d : List Rdp) (x : Str) (v : Int) : (putR d x v).length ≤ d.length + 1 := by
  unfold putR
  split
  · rw [List.length_map]; omega
  · rw [List.length_append]; exact Nat.le_refl _
theorem St1.w {kn : Kn} {a b : Cf} (h : St1 kn a b) : b.w ≤ a.w := by
  cases h with
  | @num t f d n =>
    show d.length + (f ++ [n]).length + 2 * wT t ≤ d.length + f.length + 2 * wT (t ++ [.r (.num n)])
    rw [wT_app, List.length_append]; show _ ≤ _ + 2 * (_ + 1); simp; omega
  | @rd t f d x v h =>
    have := putR_len d x v
    show (putR d x v).length + (f ++ [v]).length + 2 * wT t ≤ d.length + f.length + 2 * wT (t ++ [.r (.rd x)])
    rw [wT_app, List.length_append]; show _ ≤ _ + 2 * (_ + 1); simp; omega
  | @bin t f d op a b =>
    show d.length + f.length + 2 * wT (t ++ [.join op, .r b, .r a]) ≤ d.length + f.length + 2 * wT (t ++ [.r (.bin op a b)])
    rw [wT_app, wT_app]; show _ + 2 * (_ + (1 + (wR b + (wR a + 0)))) ≤ _ + 2 * (_ + (wR a + wR b + 2 + 0)); omega
  | @pick t f d a b c =>
    show d.length + f.length + 2 * wT (t ++ [.branch b c, .r a]) ≤ d.length + f.length + 2 * wT (t ++ [.r (.pick a b c)])
    rw [wT_app, wT_app]; show _ + 2 * (_ + (wR b + wR c + 1 + (wR a + 0))) ≤ _ + 2 * (_ + (wR a + wR b + wR c + 2 + 0)); omega
  | @cho t f d a ns =>
    show d.length + f.length + 2 * wT (t ++ [.among ns, .r a]) ≤ d.length + f.length + 2 * wT (t ++ [.r (.cho a ns)])
    rw [wT_app, wT_app]; show _ + 2 * (_ + (2 + (wR a + 0))) ≤ _ + 2 * (_ + (wR a + 3 + 0)); omega
  | @branch t f d b c v =>
    show d.length + f.length + 2 * wT (t ++ [.r (if v > 0 then b else c)]) ≤ d.length + (f ++ [v]).length + 2 * wT (t ++ [.branch b c])
    rw [wT_app, wT_app, List.length_append]
    have : wR (if v > 0 then b else c) ≤ wR b + wR c := by split <;> omega
    show _ + 2 * (_ + (wR (if v > 0 then b else c) + 0)) ≤ _ + 2 * (_ + (wR b + wR c + 1 + 0)); omega
  | @among t f d ns v x h =>
    show d.length + f.length + 2 * wT (t ++ [.r (.rd x)]) ≤ d.length + (f ++ [v]).length + 2 * wT (t ++ [.among ns])
    rw [wT_app, wT_app, List.length_append]; show _ + 2 * (_ + 1) ≤ _ + 2 * (_ + 2); omega
  | @join t f d op u v h =>
    show d.length + (f ++ [op.ap u v]).length + 2 * wT t ≤ d.length + (f ++ [u, v]).length + 2 * wT (t ++ [.join op])
    rw [wT_app, List.length_append, List.length_append]; show _ + (_ + 1) + _ ≤ _ + (_ + 2) + 2 * (_ + 1); omega
/-! ### a reckoning -/
noncomputable def rdK (d : List Rdp) : List (Key × V) := d.map fun p => (.inr p.1, .int p.2)
theorem rdK_put (d : List Rdp) (x : Str) (v : Int) : putK (rdK d) (.inr x) (.int v) = rdK (putR d x v) := by
  unfold putK putR rdK
  rw [List.any_map]
  have e : ((fun kv : Key × V => decide (kv.1 = (.inr x : Key))) ∘ fun p : Rdp => ((.inr p.1 : Key), V.int p.2)) = fun p : Rdp => decide (p.1 = x) := by
    funext p
    show decide ((Sum.inr p.1 : Key) = Sum.inr x) = _
    by_cases h : p.1 = x
    · rw [decide_eq_true h, decide_eq_true (by rw [h])]
    · rw [decide_eq_false h, decide_eq_false (fun z => h (Sum.inr.inj z))]
  rw [e]
  by_cases hc : (d.any fun p => decide (p.1 = x)) = true
  · rw [if_pos hc, if_pos hc, List.map_map, List.map_map]
    apply List.map_congr_left
    intro p _
    show (if (Sum.inr p.1 : Key) = Sum.inr x then ((Sum.inr p.1 : Key), V.int v) else ((Sum.inr p.1 : Key), V.int p.2)) = _
    by_cases h : p.1 = x
    · rw [if_pos (by rw [h])]
      show _ = ((Sum.inr (if p.1 = x then (p.1, v) else p).1 : Key), V.int (if p.1 = x then (p.1, v) else p).2)
      rw [if_pos h]
    · rw [if_neg (fun z => h (Sum.inr.inj z))]
      show _ = ((Sum.inr (if p.1 = x then (p.1, v) else p).1 : Key), V.int (if p.1 = x then (p.1, v) else p).2)
      rw [if_neg h]
  · rw [if_neg hc, if_neg hc, List.map_append]; rfl
noncomputable def rkF (a1 a2 a3 : Addr) : List (Str × V) := [("todo", .ref a1), ("found", .ref a2), ("reads", .ref a3)]
structure RcAt (H : Hp) (a C dx a1 a2 a3 : Addr) (c : Cf) : Prop where
  e : H a = some (.ins C dx (rkF a1 a2 a3))
  e1 : ∃ ws, H a1 = some (.lst ws) ∧ IsSts H ws c.todo
  e2 : H a2 = some (.lst (c.found.map V.int))
  e3 : H a3 = some (.dK (rdK c.rds))
  ne : a1 ≠ a2
  hw : c.w ≤ 10000
structure RkC (K : PySem.W.Frag) (C : Addr) : Prop where
  cl : Cls K C
  nT : NoAttr K C "todo"
  nF : NoAttr K C "found"
  nR : NoAttr K C "reads"
/-- the worths known, as a dict -/
noncomputable def KnAt (H : Hp) (d : Addr) (kn : Kn) : Prop := ∃ kvs, H d = some (.dK kvs) ∧ ∀ x, valV kvs (.inr x) = (kn x).map V.int
theorem lk_todo (a1 a2 a3 : Addr) : List.lookup ("todo" : Str) (rkF a1 a2 a3) = some (.ref a1) := rfl
theorem lk_found (a1 a2 a3 : Addr) : List.lookup ("found" : Str) (rkF a1 a2 a3) = some (.ref a2) := rfl
theorem lk_reads (a1 a2 a3 : Addr) : List.lookup ("reads" : Str) (rkF a1 a2 a3) = some (.ref a3) := rfl
theorem lk_go (a1 a2 a3 : Addr) : List.lookup ("go_on" : Str) (rkF a1 a2 a3) = none := rfl
theorem lk_lack (a1 a2 a3 : Addr) : List.lookup ("lacking" : Str) (rkF a1 a2 a3) = none := rfl
noncomputable def spJoinK : Sp := fun vs H Q _ => ∃ (op : Op) (u v : Int), vs = [.str op.word, .int u, .int v] ∧ (op = .times → CMul u v) ∧ Q (.int (op.ap u v)) H
noncomputable def spRkInit (C : Addr) : Sp := fun vs H Q _ => ∃ (a dx b : Addr) (r : R), vs = [.ref a, .ref b] ∧ H a = some (.ins C dx []) ∧ IsR H b r ∧ wR r ≤ 4000 ∧
  ∀ a1 a2 a3 H', But [a] H H' → H a1 = none → H a2 = none → H a3 = none → RcAt H' a C dx a1 a2 a3 ⟨[.r r], [], []⟩ → Q .non H'
noncomputable def spGo (C : Addr) : Sp := fun vs H Q _ => ∃ (a dx a1 a2 a3 : Addr) (v : V) (s : Stp) (t : List Stp) (f : List Int) (d : List Rdp) (kn : Kn) (c : Cf), vs = [.ref a, v] ∧ RcAt H a C dx a1 a2 a3 ⟨t, f, d⟩ ∧ IsSt H v s ∧ (∀ x, s ≠ .r (.rd x)) ∧
  St1 kn ⟨t ++ [s], f, d⟩ c ∧ c.w ≤ 10000 ∧ ∀ H', But [a1, a2, a3] H H' → RcAt H' a C dx a1 a2 a3 c → Q .non H'
noncomputable def spLack (C : Addr) : Sp := fun vs H Q _ => ∃ (a dx a1 a2 a3 d : Addr) (kn : Kn) (n : Nat) (c c' : Cf), vs = [.ref a, .ref d] ∧ RcAt H a C dx a1 a2 a3 c ∧ KnAt H d kn ∧ d ≠ a3 ∧ StN kn n c c' ∧ Halt kn c' ∧
  ∀ H', But [a1, a2, a3] H H' → RcAt H' a C dx a1 a2 a3 c' → (c'.todo = [] → Q .non H') ∧ ∀ t x, c'.todo = t ++ [.r (.rd x)] → Q (.str x) H'
theorem RcAt.lists {H : Hp} {a C dx a1 a2 a3 : Addr} {c : Cf} (h : RcAt H a C dx a1 a2 a3 c) {H' : Hp} (b : But [a1, a2, a3] H H') : Tups H H' := fun p xs q => b p _ (fun z => by
  obtain ⟨ws, e1, _⟩ := h.e1
  have : p = a1 ∨ p = a2 ∨ p = a3 := by simpa using z
  rcases this with rfl | rfl | rfl
  · rw [e1] at q; cases q
  · rw [h.e2] at q; cases q
  · rw [h.e3] at q; cases q) q
end RB
namespace RB
open PySem L2 PySem.Spec PyProof.Rows
theorem upd_none {H : Hp} {p q : Addr} {o : HO} (h : upd H p o q = none) : q ≠ p ∧ H q = none := by
  by_cases e : q = p
  · subst e; rw [upd_same] at h; cases h
  · rw [upd_ne e] at h; exact ⟨e, h⟩
theorem RcAt.ins {H : Hp} {a C dx a1 a2 a3 : Addr} {c : Cf} (h : RcAt H a C dx a1 a2 a3 c) : a ∉ [a1, a2, a3] := fun z => by
  obtain ⟨ws, e1, _⟩ := h.e1
  have z : a = a1 ∨ a = a2 ∨ a = a3 := by simpa using z
  have e := h.e
  rcases z with z | z | z
  · rw [z, e1] at e; cases e
  · rw [z, h.e2] at e; cases e
  · rw [z, h.e3] at e; cases e
theorem RcAt.n13 {H : Hp} {a C dx a1 a2 a3 : Addr} {c : Cf} (h : RcAt H a C dx a1 a2 a3 c) : a1 ≠ a3 := fun z => by
  obtain ⟨ws, e1, _⟩ := h.e1
  have e := h.e3
  rw [← z, e1] at e; cases e
theorem RcAt.n23 {H : Hp} {a C dx a1 a2 a3 : Addr} {c : Cf} (h : RcAt H a C dx a1 a2 a3 c) : a2 ≠ a3 := fun z => by
  have e := h.e3
  rw [← z, h.e2] at e; cases e
theorem RcAt.next {H H' : Hp} {a C dx a1 a2 a3 : Addr} {c c' : Cf} {ws : List V} (h : RcAt H a C dx a1 a2 a3 c) (b : But [a1, a2, a3] H H') (g1 : H' a1 = some (.lst ws)) (s : IsSts H' ws c'.todo) (g2 : H' a2 = some (.lst (c'.found.map V.int))) (g3 : H' a3 = some (.dK (rdK c'.rds))) (hw : c'.w ≤ 10000) : RcAt H' a C dx a1 a2 a3 c' :=
  ⟨b _ _ h.ins h.e, ⟨ws, g1, s⟩, g2, g3, h.ne, hw⟩
theorem IsSt.hd {H : Hp} {v : V} {s : Stp} (h : IsSt H v s) (hno : ∀ x, s ≠ .r (.rd x)) : ∃ p k xs, v = .ref p ∧ H p = some (.tup (.str k :: xs)) ∧ k ≠ "read" := by
  cases h with
  | r h =>
    cases h with
    | num e => exact ⟨_, _, _, rfl, e, by decide +kernel⟩
    | rd e => exact absurd rfl (hno _)
    | @bin _ _ _ op _ _ e _ _ => exact ⟨_, _, _, rfl, e, by cases op <;> decide +kernel⟩
    | pick e _ _ _ => exact ⟨_, _, _, rfl, e, by decide +kernel⟩
    | cho e _ _ => exact ⟨_, _, _, rfl, e, by decide +kernel⟩
  | branch e _ _ => exact ⟨_, _, _, rfl, e, by decide +kernel⟩
  | among e _ => exact ⟨_, _, _, rfl, e, by decide +kernel⟩
  | join e => exact ⟨_, _, _, rfl, e, by decide +kernel⟩
theorem StN.halt {kn : Kn} {n : Nat} {c c' : Cf} (h : StN kn n c c') (hc : Halt kn c) : c = c' := by
  cases h with
  | zero => rfl
  | succ h _ => exact (hc.no h).elim
theorem upd_id {H : Hp} {a : Addr} {o : HO} (h : H a = some o) : upd H a o = H := by
  funext b
  by_cases e : b = a
  · subst e; rw [upd_same, h]
  · rw [upd_ne e]
end RB
namespace RB
open PySem L2 PySem.Spec PyProof.Rows
theorem KnAt.put {H : Hp} {d : Addr} {kn : Kn} {kvs : List (Key × V)} {x : Str} {v : Int} (h : ∀ y, valV kvs (.inr y) = (kn y).map V.int) (e : H d = some (.dK (putK kvs (.inr x) (.int v)))) : KnAt H d (kn.put x v) :=
  ⟨_, e, fun y => by
    rw [valV_put]
    unfold Kn.put
    by_cases hy : y = x
    · rw [if_pos (by rw [hy]), if_pos hy]; rfl
    · rw [if_neg (fun z => hy (Sum.inr.inj z)), if_neg hy]; exact h y⟩
noncomputable def Small (v : Int) : Prop := -(2 ^ 63) < v ∧ v < 2 ^ 63
noncomputable def spBehind (CE : Addr) : Sp := fun vs H Q E => ∃ (b l : Addr) (r : R) (as : List Addr) (ps : List Rdp), vs = [.ref b, .ref l] ∧ IsR H b r ∧ r.Tm ∧ wR r ≤ 4000 ∧ H l = some (.lst (as.map V.ref)) ∧ IsRds H as ps ∧ ps.length ≤ 1000 ∧ (∀ p ∈ ps, Small p.2) ∧
  (match bh r kn0 ps with
   | none => ∀ H', Same H H' → E (.ref CE) none H'
   | some (.inl x) => ∀ p H', Same H H' → H' p = some (.tup [.str "read", .str x]) → Q (.ref p) H'
   | some (.inr v) => ∀ p H', Same H H' → H' p = some (.tup [.str "worth", .int v]) → Q (.ref p) H')
end RB
namespace RB
open PySem L2 PySem.Spec PyProof.Rows
theorem RcAt.same {H H' : Hp} {a C dx a1 a2 a3 : Addr} {c : Cf} (h : RcAt H a C dx a1 a2 a3 c) (s : Same H H') : RcAt H' a C dx a1 a2 a3 c := by
  obtain ⟨e, ⟨ws, e1, hw⟩, e2, e3, ne, w⟩ := h
  exact ⟨s _ _ e, ⟨ws, s _ _ e1, hw.tups (Same.tups s)⟩, s _ _ e2, s _ _ e3, ne, w⟩
/-- .. and where another address is changed -/
theorem RcAt.off {H : Hp} {a C dx a1 a2 a3 d : Addr} {c : Cf} {o : HO} (h : RcAt H a C dx a1 a2 a3 c) (hd : d ∉ [a, a1, a2, a3]) (ht : ∀ xs, H d ≠ some (.tup xs)) : RcAt (upd H d o) a C dx a1 a2 a3 c := by
  obtain ⟨e, ⟨ws, e1, hw⟩, e2, e3, ne, w⟩ := h
  have n0 : a ≠ d := fun z => hd (by simp [z])
  have n1 : a1 ≠ d := fun z => hd (by simp [z])
  have n2 : a2 ≠ d := fun z => hd (by simp [z])
  have n3 : a3 ≠ d := fun z => hd (by simp [z])
  exact ⟨(upd_ne n0).trans e, ⟨ws, (upd_ne n1).trans e1, hw.tups fun p xs q => (upd_ne (fun z => ht xs (by rw [← z]; exact q))).trans q⟩, (upd_ne n2).trans e2, (upd_ne n3).trans e3, ne, w⟩
theorem same_none {H H' : Hp} {p : Addr} (s : Same H H') (h : H' p = none) : H p = none := by
  cases z : H p with
  | none => rfl
  | some o => rw [s _ _ z] at h; cases h
end RB

set_option maxRecDepth 100000
namespace L2
open PySem PySem.Spec PyProof.Rows
theorem key_rel {k : Key} {v : Value} (h : keyIs k v = true) : RelV (kV k) v := by
  rcases keyIs_shape h with ⟨i, t, rfl, rfl⟩ | ⟨x, t, rfl, rfl⟩
  · exact ⟨t, rfl⟩
  · exact ⟨t, rfl⟩
theorem vals_of_at : ∀ {ys : List V} {its : List Value}, its.length = ys.length → (∀ (i : Nat) (v : Value), its[i]? = some v → ∃ y, ys[i]? = some y ∧ RelV y v) → Vals ys its
  | [], [], _, _ => .nil
  | y :: ys, v :: its, hl, h => by
    obtain ⟨y', e, r⟩ := h 0 v rfl
    cases e
    exact .cons r (vals_of_at (by simpa using hl) fun i u hu => h (i + 1) u (by simpa using hu))
  | [], _ :: _, hl, _ => by simp at hl
  | _ :: _, [], hl, _ => by simp at hl
theorem kv_at {κ : Type} : ∀ {kvs : List (κ × V)} {vs : List (κ × Value)}, KV kvs vs → kvs.length = vs.length ∧ ∀ (i : Nat) (k : κ) (x : Value), vs[i]? = some (k, x) → ∃ y, kvs[i]? = some (k, y)
  | _, _, .nil => ⟨rfl, fun i k x h => by simp at h⟩
  | _, _, .cons (a := p) (b := q) h t => by
    obtain ⟨h1, h2⟩ := kv_at t
    refine ⟨by simp [h1], fun i k x e => ?_⟩
    cases i with
    | zero => cases e; exact ⟨p.2, by rw [List.getElem?_cons_zero]; cases p; simp only at h ⊢; rw [h.1]⟩
    | succ i => exact h2 i k x (by simpa using e)
section
variable {X : Cx}
theorem call_listD (hc : X.calm = true) : CallR X (.type "list") (fun xs H Q => ∃ a kvs, xs = [.ref a] ∧ H a = some (.dK kvs) ∧ ∀ l, H l = none → Q (.ref l) (upd H l (.lst (kvs.map fun kv => kV kv.1)))) := by
  intro pins s σ H xs us Q I r h
  obtain ⟨a, kvs, rfl, ha, q⟩ := h
  obtain ⟨u, rfl, rx⟩ := vals1 r
  cases rx
  obtain ⟨hz, lo, vs, hkv, hd⟩ := (show ObjOk X.prog X.w H s.heap a (.dK kvs) from I.hok a _ ha)
  obtain ⟨ep, hat⟩ := hd.dictAt
  obtain ⟨hl, hk⟩ := kv_at hkv
  refine PySem.W.kdl_call (PySem.W.kdl_dict lo) (I.ok.hd hc) hat (by rw [← hl]; exact hz) fun h' tk acc c kp e hacc => ?_
  have hv : Vals (kvs.map fun kv => kV kv.1) acc.toList := vals_of_at (by rw [List.length_map, Array.length_toList, hacc.1, hl]) fun i v hv => by
    obtain ⟨k, x, e1, e2⟩ := hacc.2 i v (by rw [← Array.getElem?_toList]; exact hv)
    obtain ⟨y, hy⟩ := hk i k x e1
    exact ⟨kV k, by rw [List.getElem?_map, hy]; rfl, key_rel e2⟩
  exact ⟨.ref s.heap.objs.size, _, I.laid (t' := tk) kp (Nat.le_refl _) (show ObjOk X.prog X.w _ h' _ (.lst (kvs.map fun kv => kV kv.1)) from ⟨by rw [List.length_map]; exact hz, acc.toList, c, hv, by simpa using e⟩), rfl, q _ (I.hok.fresh (Nat.le_refl _))⟩
theorem qc_listD (hc : X.calm = true) : QCall X (.type "list") (fun xs H Q => ∃ a kvs, xs = [.ref a] ∧ H a = some (.dK kvs) ∧ ∀ l, H l = none → Q (.ref l) (upd H l (.lst (kvs.map fun kv => kV kv.1)))) := ⟨call_listD hc⟩
end
end L2

set_option maxRecDepth 100000
namespace RB
open PySem L2 PySem.Spec PyProof.Rows
/-! ### the pools of the laws from k50 on -/
noncomputable def plV (a m k : Int) : List V := [.int a, .int m, .int k]
noncomputable def PlAt (H : Hp) (p : Addr) (c : Nat) : Prop := ∃ a m k, H p = some (.lst (plV a m k)) ∧ 0 ≤ k ∧ k ≤ (c : Int)
theorem PlAt.keep {S : List Addr} {H H' : Hp} {p : Addr} {c : Nat} (h : PlAt H p c) (b : But S H H') (hp : p ∉ S) : PlAt H' p c := by
  obtain ⟨a, m, k, e, h⟩ := h
  exact ⟨a, m, k, b _ _ hp e, h⟩
theorem PlAt.same {H H' : Hp} {p : Addr} {c : Nat} (h : PlAt H p c) (b : Same H H') : PlAt H' p c := h.keep (S := []) (But.of_same b) (by simp)
theorem PlAt.mono {H : Hp} {p : Addr} {c c' : Nat} (h : PlAt H p c) (hc : c ≤ c') : PlAt H p c' := by
  obtain ⟨a, m, k, e, h0, h1⟩ := h
  exact ⟨a, m, k, e, h0, by omega⟩
theorem PlAt.tups {H H' : Hp} {p : Addr} {c : Nat} (h : PlAt H p c) (b : But [p] H H') : Tups H H' := fun q xs e => b q _ (fun z => by
  obtain ⟨r, m, k, e', _⟩ := h
  have : q = p := by simpa using z
  rw [this, e'] at e; cases e) e
theorem PlAt.ne {H : Hp} {p q : Addr} {c : Nat} (h : PlAt H p c) (hq : H q = none) : q ≠ p := fun z => by
  obtain ⟨r, m, k, e', _⟩ := h
  rw [← z, hq] at e'; cases e'
noncomputable def spPl (K : PySem.W.Frag) : Sp := fun vs H Q _ => ∃ (a : Addr) (ns : List Int) (k : Int), vs = [.ref a, .int k] ∧ SqL K H a (ns.map V.int) ∧ 0 ≤ k ∧ k ≤ 100 ∧ ∀ p H', Same H H' → H p = none → PlAt H' p 1100 → Q (.ref p) H'
noncomputable def spTk : Sp := fun vs H Q _ => ∃ (p : Addr) (c : Nat) (many : Int), vs = [.ref p, .int many] ∧ PlAt H p c ∧ c ≤ 100000 ∧ 0 < many ∧ many.natAbs.log2 < 9000 ∧ ∀ n H', 0 ≤ n → n < many → But [p] H H' → PlAt H' p (c + 1) → Q (.int n) H'
noncomputable def spNms : Sp := fun vs H Q _ => ∃ (p : Addr) (c : Nat), vs = [.ref p] ∧ PlAt H p c ∧ c ≤ 50000 ∧ ∀ (l : Addr) (ns : List Str) (H' : Hp), But [p] H H' → PlAt H' p (c + 70) → H l = none → H' l = some (.lst (ns.map V.str)) → 1 ≤ ns.length → ns.length ≤ 7 → (∀ x ∈ ns, GName x) → Q (.ref l) H'
/-- all names within -/
noncomputable def R.In (ns : List Str) : R → Prop
  | .num _ => True
  | .rd x => x ∈ ns
  | .bin _ a b => a.In ns ∧ b.In ns
  | .pick a b c => a.In ns ∧ b.In ns ∧ c.In ns
  | .cho a ms => a.In ns ∧ ∀ x ∈ ms, x ∈ ns
/-- numbers of a million at most, products of leaves alone -/
noncomputable def R.Sml : R → Prop
  | .num n => -1000000 ≤ n ∧ n ≤ 1000000
  | .rd _ => True
  | .bin op a b => a.Sml ∧ b.Sml ∧ (op = .times → wR a = 1 ∧ wR b = 1)
  | .pick a b c => a.Sml ∧ b.Sml ∧ c.Sml
  | .cho a _ => a.Sml
/-- the recipes of these laws -/
structure Rok (ns : List Str) (r : R) : Prop where
  g : r.Good
  t : r.Tm
  i : r.In ns
  s : r.Sml
noncomputable def spLf : Sp := fun vs H Q _ => ∃ (p l : Addr) (c : Nat) (ns : List Str), vs = [.ref p, .ref l, .int 1000000] ∧ PlAt H p c ∧ c ≤ 50000 ∧ l ≠ p ∧ H l = some (.lst (ns.map V.str)) ∧ 1 ≤ ns.length ∧ ns.length ≤ 7 ∧ (∀ x ∈ ns, GName x) ∧
  ∀ a r H', But [p] H H' → PlAt H' p (c + 6) → IsR H' a r → Rok ns r → Leaf r → Q (.ref a) H'
noncomputable def tkN : Nat → Nat
  | 0 => 10
  | d + 1 => 3 * tkN d + 20
noncomputable def wN : Nat → Nat
  | 0 => 1
  | d + 1 => 3 * wN d + 3
theorem wN_pos (d : Nat) : 1 ≤ wN d := by cases d with
  | zero => exact Nat.le_refl _
  | succ d => show 1 ≤ 3 * wN d + 3; omega
theorem tkN_pos (d : Nat) : 10 ≤ tkN d := by
  induction d with
  | zero => exact Nat.le_refl _
  | succ d ih => show 10 ≤ 3 * tkN d + 20; omega
noncomputable def spPt (d : Nat) : Sp := fun vs H Q _ => ∃ (p l : Addr) (c : Nat) (ns : List Str) (deep : Int), vs = [.ref p, .ref l, .int deep, .int 1000000] ∧ deep = (d : Int) ∧ d ≤ 3 ∧ PlAt H p c ∧ c ≤ 10000 + 1000 * (4 - d) ∧ l ≠ p ∧ H l = some (.lst (ns.map V.str)) ∧ 1 ≤ ns.length ∧ ns.length ≤ 7 ∧ (∀ x ∈ ns, GName x) ∧
  ∀ a r H', But [p] H H' → PlAt H' p (c + tkN d) → IsR H' a r → Rok ns r → wR r ≤ wN d → r.depth ≤ d + 1 → (d = 0 → Leaf r) → Q (.ref a) H'
noncomputable def spRcp : Sp := fun vs H Q _ => ∃ (p l : Addr) (c : Nat) (ns : List Str), vs = [.ref p, .ref l, .int 1000000] ∧ PlAt H p c ∧ c ≤ 5000 ∧ l ≠ p ∧ H l = some (.lst (ns.map V.str)) ∧ 1 ≤ ns.length ∧ ns.length ≤ 7 ∧ (∀ x ∈ ns, GName x) ∧
  ∀ a r H', But [p] H H' → PlAt H' p (c + 1000) → IsR H' a r → Rok ns r → wR r ≤ 1000 → r.depth ≤ 8 → Q (.ref a) H'
end RB
namespace RB
open PySem L2 PySem.Spec PyProof.Rows
theorem but_none {S : List Addr} {H H' : Hp} {q : Addr} (b : But S H H') (h : H' q = none) (hS : q ∉ S) : H q = none := by
  cases z : H q with
  | none => rfl
  | some o => rw [b _ _ hS z] at h; cases h
theorem shaped_nms {ns : List Str} (h : ∀ x ∈ ns, GName x) : SeqAt.shaped (.list (ns.map PyData.str)) = true := by
  have := depth_strs ns
  have h4 : (PyData.list (ns.map PyData.str)).depth ≤ 64 := by simp only [PyData.depth]; omega
  have h5 : (PyData.list (ns.map PyData.str)).canLay0 = true := by simp only [PyData.canLay0]; exact lay_names ns h
  show (_ && decide _) = true
  rw [h5, decide_eq_true h4]; rfl
theorem eqv_nms {ns : List Str} (h : 1 ≤ ns.length) : PyData.eqv (.list (ns.map PyData.str)) (.list []) = false := by
  cases ns with
  | nil => simp at h
  | cons n ns => simp [PyData.eqv, PyData.eqvAll]
end RB

set_option maxRecDepth 100000
namespace L2
open PySem PySem.Spec PyProof.Rows
/-! ### xs[::-1] -/
theorem rev_take {α : Type} (xs : List α) : ∀ n, n ≤ xs.length → (List.range n).filterMap (fun k => xs[xs.length - 1 - k]?) = xs.reverse.take n
  | 0, _ => by simp
  | n + 1, h => by
    rw [List.range_succ, List.filterMap_append, rev_take xs n (by omega), List.take_add_one, List.getElem?_reverse (by omega)]
    congr 1
theorem slicePick_rev (its : List Value) : slicePick its.toArray none none (some (-1)) = its.reverse.toArray := by
  have hb : sliceBounds none none (some (-1)) its.toArray.size = ((its.length : Int) - 1, -1, -1) := by
    unfold sliceBounds
    simp
  unfold slicePick
  rw [hb]
  simp only
  congr 1
  unfold sliceRange
  have e0 : ¬ ((-1 : Int) > 0) := by decide
  simp only [if_neg e0]
  have ec : (if (its.length : Int) - 1 > -1 then ((its.length : Int) - 1 - -1 - -1 - 1) / (- -1) else 0).toNat = its.length := by
    split
    · have : ((its.length : Int) - 1 - -1 - -1 - 1) / (- -1) = (its.length : Int) := by
        have : (- -1 : Int) = 1 := by decide
        rw [this, Int.ediv_one]; omega
      rw [this]; omega
    · omega
  rw [ec, List.filterMap_map]
  have h := rev_take its its.length (Nat.le_refl _)
  rw [List.take_of_length_le (by simp)] at h
  rw [← h]
  have ef : ((fun x => its.toArray[x]?) ∘ fun k : Nat => ((its.length : Int) - 1 + -1 * (k : Int)).toNat) = fun k => its[its.length - 1 - k]? := by
    funext k
    show its.toArray[((its.length : Int) - 1 + -1 * (k : Int)).toNat]? = its[its.length - 1 - k]?
    have : ((its.length : Int) - 1 + -1 * (k : Int)).toNat = its.length - 1 - k := by omega
    rw [this]; simp
  rw [ef]
theorem Vals.rev {xs : List V} {its : List Value} (r : Vals xs its) : Vals xs.reverse its.reverse := by
  induction r with
  | nil => exact .nil
  | cons r1 _ ih =>
    rw [List.reverse_cons, List.reverse_cons]
    exact ih.append (.cons r1 .nil)
section
variable {X : Cx} {e st : Expr} {te ts : TE} {pos p2 : Pos}
noncomputable def rRev (K : PySem.W.Frag) : V → V → Hp → VK → Prop := fun x y H Q => ∃ a xs, x = .ref a ∧ y = .int (-1) ∧ SqL K H a xs ∧ ∀ p, H p = none → Q (.ref p) (upd H p (.lst xs.reverse))
noncomputable def tRev (K : PySem.W.Frag) (te ts : TE) : TE := fun σ H Q => te σ H fun x H1 => ts σ H1 fun y H2 => rRev K x y H2 Q
theorem pe_rev (he : PE X e te) (hst : PE X st ts) : PE X (.Subscript e (.Slice none none (some st) p2) pos) (tRev X.K te ts) := by
  intro pins s σ H Q I h
  refine Subscript_ (thn (he pins s σ H _ I h) fun v s1 ⟨x, H1, I1, r1, q1⟩ => ?_)
  refine wpAny_Slice ?_
  rw [evalPart_none]
  refine wpAny_pure ?_
  refine wpAny_pure ?_
  rw [evalPart_some]
  refine thn (hst pins s1 σ H1 _ I1 q1) fun vs s3 ⟨y, H3, I3, r3, q3⟩ => ?_
  obtain ⟨a, xs, rfl, rfl, hx, q⟩ := q3
  obtain ⟨t, rfl⟩ := r3
  cases r1
  have I4 : Inv X pins σ H3 { s3 with heap := s3.heap.push { cls := .type "slice", data := .fields #[.none, .none, .int (-1) t] } } := I3.kept (t' := s3.toks) fun b ob q => Heap.get?_push_of_some _ q
  obtain ⟨its, r, ht, hz⟩ := I4.list hx
  have hlen := r.length
  show wpAny (model X.prog X.w) X.A (subscriptTail e (.Slice none none (some st) p2) (.ref a) (.ref s3.heap.objs.size)) (EP X pins σ Q) X.xe { s3 with heap := s3.heap.push { cls := .type "slice", data := .fields #[.none, .none, .int (-1) t] } }
  refine tail_any (ops := [.ref a, .ref s3.heap.objs.size]) ht.isList.typeIs slot_list_getitem.lookup ?_ (by with_unfolding_all rfl)
  refine wpAny_getItem_list_slice ht.isList (Heap.IsSliceOf.new ..) .none .none (.int (-1) t) (by simp) ?_ (by rw [List.size_toArray] <;> omega)
  rw [slicePick_rev]
  exact ⟨.ref _, _, I4.laid (t' := s3.toks) (o := .lst xs.reverse) (fun b ob q => Heap.get?_push_of_some _ q) (Nat.le_refl _) ⟨by rw [List.length_reverse]; exact hz, _, 0, r.rev, Heap.get?_push_size _ rfl⟩, rfl, q _ (I4.hok.fresh (Nat.le_refl _))⟩
theorem qe_rev (he : QE X e te) (hs : QE X st ts) : QE X (.Subscript e (.Slice none none (some st) p2) pos) (tRev X.K te ts) := ⟨pe_rev he.h hs.h⟩
theorem qmt_popAt : QMt X "list.pop" rPopAt := ⟨mt_popAt⟩
end
end L2

set_option maxRecDepth 100000
namespace RB
open PySem L2 PySem.Spec PyProof.Rows
/-! ### the law's own way: reads are used up as they are looked for -/
inductive Gr where
  | val (v : Int) (kn : Kn) (ps : List Rdp)
  | due (x : Str)
  | wrong
noncomputable def lookG (x : Str) (kn : Kn) (ps : List Rdp) : Gr := match kn x with
  | some v => .val v kn ps
  | none => match ps with
    | [] => .due x
    | p :: qs => if p.1 = x then .val p.2 (kn.put x p.2) qs else .wrong
noncomputable def gn : R → Kn → List Rdp → Gr
  | .num n, kn, ps => .val n kn ps
  | .rd x, kn, ps => lookG x kn ps
  | .bin op a b, kn, ps => match gn a kn ps with
    | .val u kn1 ps1 => match gn b kn1 ps1 with
      | .val v kn2 ps2 => .val (op.ap u v) kn2 ps2
      | g => g
    | g => g
  | .pick a b c, kn, ps => match gn a kn ps with
    | .val u kn1 ps1 => if u > 0 then gn b kn1 ps1 else gn c kn1 ps1
    | g => g
  | .cho a ns, kn, ps => match gn a kn ps with
    | .val u kn1 ps1 => match pickN ns u with
      | none => .wrong
      | some x => lookG x kn1 ps1
    | g => g
/-- just these names are looked for, one after another -/
noncomputable def Chn (r : R) : Kn → List Rdp → Prop
  | _, [] => True
  | kn, p :: us => ev kn r = .inl p.1 ∧ Chn r (kn.put p.1 p.2) us
theorem Chn.le {r : R} : ∀ {us : List Rdp} {kn : Kn}, Chn r kn us → Kn.Le kn (kn.puts us)
  | [], kn, _ => Kn.Le.refl _
  | p :: us, kn, h => (Kn.le_put (ev_none h.1)).trans (Chn.le (us := us) h.2)
theorem Chn.up {a r : R} : ∀ {us : List Rdp} {kn : Kn}, (∀ kn' x, Kn.Le kn kn' → ev kn' a = .inl x → ev kn' r = .inl x) → Chn a kn us → Chn r kn us
  | [], _, _, _ => trivial
  | p :: us, kn, h, g => ⟨h kn p.1 (Kn.Le.refl _) g.1, Chn.up (us := us) (fun kn' x l e => h kn' x ((Kn.le_put (ev_none g.1)).trans l) e) g.2⟩
theorem Kn.puts_app (kn : Kn) (us vs : List Rdp) : kn.puts (us ++ vs) = (kn.puts us).puts vs := by
  induction us generalizing kn with
  | nil => rfl
  | cons u us ih => exact ih _
theorem Chn.app {r : R} : ∀ {us vs : List Rdp} {kn : Kn}, Chn r kn us → Chn r (kn.puts us) vs → Chn r kn (us ++ vs)
  | [], _, _, _, h => h
  | p :: us, vs, kn, g, h => ⟨g.1, Chn.app (us := us) g.2 h⟩
theorem bh_chn {r : R} : ∀ {us : List Rdp} {kn : Kn} (ps : List Rdp), Chn r kn us → bh r kn (us ++ ps) = bh r (kn.puts us) ps
  | [], _, _, _ => rfl
  | p :: us, kn, ps, g => by
    show bh r kn (p :: (us ++ ps)) = _
    rw [bh_cons, g.1]
    simp only
    rw [if_pos trivial]
    exact bh_chn ps g.2
noncomputable def GSpec (r : R) (kn : Kn) (ps : List Rdp) : Gr → Prop
  | .val v kn' ps' => ∃ us, ps = us ++ ps' ∧ kn' = kn.puts us ∧ Chn r kn us ∧ ev kn' r = .inr v
  | .due x => Chn r kn ps ∧ ev (kn.puts ps) r = .inl x
  | .wrong => ∃ us p ps' x, ps = us ++ p :: ps' ∧ Chn r kn us ∧ ev (kn.puts us) r = .inl x ∧ x ≠ p.1
theorem lookG_spec (x : Str) (kn : Kn) (ps : List Rdp) : GSpec (.rd x) kn ps (lookG x kn ps) := by
  unfold lookG
  cases e : kn x with
  | some v => exact ⟨[], rfl, rfl, trivial, by show look kn x = _; unfold look; rw [e]⟩
  | none =>
    have el : ev kn (.rd x) = .inl x := by show look kn x = _; unfold look; rw [e]
    cases ps with
    | nil => exact ⟨trivial, el⟩
    | cons p qs =>
      simp only
      by_cases h : p.1 = x
      · rw [if_pos h]
        subst h
        refine ⟨[p], rfl, rfl, ⟨el, trivial⟩, ?_⟩
        show look (kn.put p.1 p.2) p.1 = _
        unfold look Kn.put
        rw [if_pos rfl]
      · rw [if_neg h]
        exact ⟨[], p, qs, x, rfl, trivial, el, fun z => h z.symm⟩
/-- a part that is looked at while the rest has nothing to say -/
theorem GSpec.up {a r : R} {kn0 kn : Kn} {us0 ps ps0 : List Rdp} (hps : ps0 = us0 ++ ps) (hkn : kn = kn0.puts us0) (c0 : Chn r kn0 us0) (h : ∀ kn' x, Kn.Le kn kn' → ev kn' a = .inl x → ev kn' r = .inl x) (hv : ∀ kn' v, Kn.Le kn kn' → ev kn' a = .inr v → ev kn' r = .inr v) :
    ∀ {g : Gr}, GSpec a kn ps g → GSpec r kn0 ps0 g := by
  intro g s
  subst hkn hps
  cases g with
  | val v kn' ps' =>
    obtain ⟨us, rfl, rfl, c, e⟩ := s
    exact ⟨us0 ++ us, (List.append_assoc ..).symm, (Kn.puts_app ..).symm, c0.app (c.up h), hv _ _ c.le e⟩
  | due x =>
    obtain ⟨c, e⟩ := s
    exact ⟨c0.app (c.up h), by rw [Kn.puts_app]; exact h _ _ c.le e⟩
  | wrong =>
    obtain ⟨us, p, ps', x, rfl, c, e, n⟩ := s
    exact ⟨us0 ++ us, p, ps', x, (List.append_assoc ..).symm, c0.app (c.up h), by rw [Kn.puts_app]; exact h _ _ c.le e, n⟩
theorem gn_spec : ∀ (r : R), r.Tm → ∀ kn ps, GSpec r kn ps (gn r kn ps)
  | .num n, _, kn, ps => ⟨[], rfl, rfl, trivial, rfl⟩
  | .rd x, _, kn, ps => lookG_spec x kn ps
  | .bin op a b, t, kn, ps => by
    have ha := gn_spec a t.1 kn ps
    have ua : ∀ kn' x, ev kn' a = .inl x → ev kn' (.bin op a b) = .inl x := fun kn' x e => by simp only [ev]; rw [e]
    simp only [gn]
    cases ea : gn a kn ps with
    | val u kn1 ps1 =>
      rw [ea] at ha
      obtain ⟨us, e1, e2, c, ev1⟩ := ha
      have hb := gn_spec b t.2.1 kn1 ps1
      have ub : ∀ kn' x, Kn.Le kn1 kn' → ev kn' b = .inl x → ev kn' (.bin op a b) = .inl x := fun kn' x l e => by simp only [ev]; rw [ev_le l ev1]; simp only; rw [e]
      simp only
      cases eb : gn b kn1 ps1 with
      | val v kn2 ps2 =>
        rw [eb] at hb
        obtain ⟨vs, e3, e4, c2, ev2⟩ := hb
        subst e3 e4
        subst e1 e2
        exact ⟨us ++ vs, (List.append_assoc ..).symm, (Kn.puts_app ..).symm, (c.up fun kn' x _ e => ua kn' x e).app (c2.up ub), by simp only [ev]; rw [ev_le c2.le ev1]; simp only; rw [ev2]⟩
      | due x =>
        rw [eb] at hb
        obtain ⟨c2, e⟩ := hb
        subst e1 e2
        exact ⟨(c.up fun kn' x _ e => ua kn' x e).app (c2.up ub), by rw [Kn.puts_app]; exact ub _ _ c2.le e⟩
      | wrong =>
        rw [eb] at hb
        obtain ⟨vs, p, ps', x, e3, c2, e, n⟩ := hb
        subst e3
        subst e1 e2
        exact ⟨us ++ vs, p, ps', x, (List.append_assoc ..).symm, (c.up fun kn' x _ e => ua kn' x e).app (c2.up ub), by rw [Kn.puts_app]; exact ub _ _ c2.le e, n⟩
    | due x =>
      rw [ea] at ha
      exact ⟨ha.1.up fun kn' x _ e => ua kn' x e, ua _ _ ha.2⟩
    | wrong =>
      rw [ea] at ha
      obtain ⟨us, p, ps', x, e1, c, e, n⟩ := ha
      exact ⟨us, p, ps', x, e1, c.up fun kn' x _ e => ua kn' x e, ua _ _ e, n⟩
  | .pick a b c, t, kn, ps => by
    have ha := gn_spec a t.1 kn ps
    have ua : ∀ kn' x, ev kn' a = .inl x → ev kn' (.pick a b c) = .inl x := fun kn' x e => by simp only [ev]; rw [e]
    simp only [gn]
    cases ea : gn a kn ps with
    | val u kn1 ps1 =>
      rw [ea] at ha
      obtain ⟨us, e1, e2, ch, ev1⟩ := ha
      simp only
      have ch' : Chn (.pick a b c) kn us := ch.up fun kn' x _ e => ua kn' x e
      by_cases hu : u > 0
      · rw [if_pos hu]
        refine GSpec.up e1 e2 ch' (fun kn' x l e => ?_) (fun kn' v l e => ?_) (gn_spec b t.2.1 kn1 ps1)
        · simp only [ev]; rw [ev_le l ev1]; simp only; rw [if_pos hu]; exact e
        · simp only [ev]; rw [ev_le l ev1]; simp only; rw [if_pos hu]; exact e
      · rw [if_neg hu]
        refine GSpec.up e1 e2 ch' (fun kn' x l e => ?_) (fun kn' v l e => ?_) (gn_spec c t.2.2 kn1 ps1)
        · simp only [ev]; rw [ev_le l ev1]; simp only; rw [if_neg hu]; exact e
        · simp only [ev]; rw [ev_le l ev1]; simp only; rw [if_neg hu]; exact e
    | due x =>
      rw [ea] at ha
      exact ⟨ha.1.up fun kn' x _ e => ua kn' x e, ua _ _ ha.2⟩
    | wrong =>
      rw [ea] at ha
      obtain ⟨us, p, ps', x, e1, c, e, n⟩ := ha
      exact ⟨us, p, ps', x, e1, c.up fun kn' x _ e => ua kn' x e, ua _ _ e, n⟩
  | .cho a ns, t, kn, ps => by
    have ha := gn_spec a t.1 kn ps
    have ua : ∀ kn' x, ev kn' a = .inl x → ev kn' (.cho a ns) = .inl x := fun kn' x e => by simp only [ev]; rw [e]
    simp only [gn]
    cases ea : gn a kn ps with
    | val u kn1 ps1 =>
      rw [ea] at ha
      obtain ⟨us, e1, e2, ch, ev1⟩ := ha
      simp only
      have ch' : Chn (.cho a ns) kn us := ch.up fun kn' x _ e => ua kn' x e
      obtain ⟨y, ey⟩ := pick_some t.2 u
      rw [ey]
      simp only
      refine GSpec.up e1 e2 ch' (fun kn' x l e => ?_) (fun kn' v l e => ?_) (lookG_spec y kn1 ps1)
      · simp only [ev]; rw [ev_le l ev1]; simp only; rw [ey]; exact e
      · simp only [ev]; rw [ev_le l ev1]; simp only; rw [ey]; exact e
    | due x =>
      rw [ea] at ha
      exact ⟨ha.1.up fun kn' x _ e => ua kn' x e, ua _ _ ha.2⟩
    | wrong =>
      rw [ea] at ha
      obtain ⟨us, p, ps', x, e1, c, e, n⟩ := ha
      exact ⟨us, p, ps', x, e1, c.up fun kn' x _ e => ua kn' x e, ua _ _ e, n⟩
/-- so it is what `behind` says -/
noncomputable def grB : Gr → Option (Str ⊕ Int)
  | .val v _ ps => if ps = [] then some (.inr v) else none
  | .due x => some (.inl x)
  | .wrong => none
theorem gn_bh {r : R} (t : r.Tm) (kn : Kn) (ps : List Rdp) : bh r kn ps = grB (gn r kn ps) := by
  have h := gn_spec r t kn ps
  cases e : gn r kn ps with
  | val v kn' ps' =>
    rw [e] at h
    obtain ⟨us, rfl, rfl, c, ev1⟩ := h
    rw [bh_chn ps' c]
    show _ = if ps' = [] then _ else _
    cases ps' with
    | nil => rw [if_pos rfl, bh_nil, ev1]
    | cons p qs => rw [if_neg (by simp), bh_cons, ev1]
  | due x =>
    rw [e] at h
    have := bh_chn [] h.1
    rw [List.append_nil] at this
    rw [this, bh_nil, h.2]; rfl
  | wrong =>
    rw [e] at h
    obtain ⟨us, p, ps', x, rfl, c, e1, n⟩ := h
    rw [bh_chn _ c, bh_cons, e1]
    simp only
    rw [if_neg n]; rfl
/-! ### how big a worth may be -/
noncomputable def Kn.Ml (kn : Kn) : Prop := ∀ x v, kn x = some v → -1000000 ≤ v ∧ v ≤ 1000000
theorem Kn.Ml.put {kn : Kn} (h : kn.Ml) {x : Str} {v : Int} (hv : -1000000 ≤ v ∧ v ≤ 1000000) : (kn.put x v).Ml := fun y u e => by
  unfold Kn.put at e
  split at e
  · cases e; exact hv
  · exact h y u e
noncomputable def Bd (r : R) (v : Int) : Prop := -(1000000000000 * (wR r : Int)) ≤ v ∧ v ≤ 1000000000000 * (wR r : Int) ∧ (wR r = 1 → -1000000 ≤ v ∧ v ≤ 1000000)
theorem bd_of {r : R} {v : Int} (h : -1000000 ≤ v ∧ v ≤ 1000000) : Bd r v := by
  have := wR_pos r
  exact ⟨by omega, by omega, fun _ => h⟩
theorem lookG_ml {x : Str} {kn : Kn} {ps : List Rdp} (hk : kn.Ml) (hp : ∀ p ∈ ps, -1000000 ≤ p.2 ∧ p.2 ≤ 1000000) {v : Int} {kn' : Kn} {ps' : List Rdp} (e : lookG x kn ps = .val v kn' ps') : (-1000000 ≤ v ∧ v ≤ 1000000) ∧ kn'.Ml ∧ (∀ p ∈ ps', -1000000 ≤ p.2 ∧ p.2 ≤ 1000000) := by
  unfold lookG at e
  cases ek : kn x with
  | some u => rw [ek] at e; cases e; exact ⟨hk _ _ ek, hk, hp⟩
  | none =>
    rw [ek] at e
    cases ps with
    | nil => cases e
    | cons p qs =>
      simp only at e
      split at e
      · cases e
        exact ⟨hp p (by simp), hk.put (hp p (by simp)), fun q hq => hp q (by simp [hq])⟩
      · cases e
theorem ap_bd {op : Op} {u v wa wb : Int} (ha : -(1000000000000 * wa) ≤ u ∧ u ≤ 1000000000000 * wa) (hb : -(1000000000000 * wb) ≤ v ∧ v ≤ 1000000000000 * wb) (h1 : 1 ≤ wa) (h2 : 1 ≤ wb) (ht : op = .times → (-1000000 ≤ u ∧ u ≤ 1000000) ∧ (-1000000 ≤ v ∧ v ≤ 1000000)) : -(1000000000000 * (wa + wb + 2)) ≤ op.ap u v ∧ op.ap u v ≤ 1000000000000 * (wa + wb + 2) := by
  cases op with
  | plus => show _ ≤ u + v ∧ u + v ≤ _; omega
  | minus => show _ ≤ u - v ∧ u - v ≤ _; omega
  | most =>
    show _ ≤ (if v > u then v else u) ∧ (if v > u then v else u) ≤ _
    split <;> omega
  | times =>
    show _ ≤ u * v ∧ u * v ≤ _
    obtain ⟨⟨a1, a2⟩, b1, b2⟩ := ht rfl
    have h : (u * v).natAbs ≤ 1000000 * 1000000 := by
      rw [Int.natAbs_mul]
      exact Nat.mul_le_mul (by omega) (by omega)
    omega
theorem gn_ml : ∀ (r : R), r.Sml → ∀ {kn : Kn} {ps : List Rdp}, kn.Ml → (∀ p ∈ ps, -1000000 ≤ p.2 ∧ p.2 ≤ 1000000) → ∀ {v : Int} {kn' : Kn} {ps' : List Rdp}, gn r kn ps = .val v kn' ps' → Bd r v ∧ kn'.Ml ∧ (∀ p ∈ ps', -1000000 ≤ p.2 ∧ p.2 ≤ 1000000)
  | .num n, s, kn, ps, hk, hp, v, kn', ps', e => by cases e; exact ⟨bd_of s, hk, hp⟩
  | .rd x, s, kn, ps, hk, hp, v, kn', ps', e => by
    obtain ⟨h1, h2, h3⟩ := lookG_ml hk hp e
    exact ⟨bd_of h1, h2, h3⟩
  | .bin op a b, s, kn, ps, hk, hp, v, kn', ps', e => by
    simp only [gn] at e
    cases ea : gn a kn ps with
    | val u kn1 ps1 =>
      rw [ea] at e
      obtain ⟨b1, hk1, hp1⟩ := gn_ml a s.1 hk hp ea
      simp only at e
      cases eb : gn b kn1 ps1 with
      | val w kn2 ps2 =>
        rw [eb] at e
        obtain ⟨b2, hk2, hp2⟩ := gn_ml b s.2.1 hk1 hp1 eb
        cases e
        have wa := wR_pos a
        have wb := wR_pos b
        have h := ap_bd (op := op) ⟨b1.1, b1.2.1⟩ ⟨b2.1, b2.2.1⟩ (by omega) (by omega) (fun z => ⟨b1.2.2 (s.2.2 z).1, b2.2.2 (s.2.2 z).2⟩)
        have ew : (wR (.bin op a b) : Int) = (wR a : Int) + (wR b : Int) + 2 := by show ((wR a + wR b + 2 : Nat) : Int) = _; omega
        exact ⟨⟨by rw [ew]; exact h.1, by rw [ew]; exact h.2, fun z => by have : wR a + wR b + 2 = 1 := z; omega⟩, hk2, hp2⟩
      | due x => rw [eb] at e; cases e
      | wrong => rw [eb] at e; cases e
    | due x => rw [ea] at e; cases e
    | wrong => rw [ea] at e; cases e
  | .pick a b c, s, kn, ps, hk, hp, v, kn', ps', e => by
    simp only [gn] at e
    cases ea : gn a kn ps with
    | val u kn1 ps1 =>
      rw [ea] at e
      obtain ⟨b1, hk1, hp1⟩ := gn_ml a s.1 hk hp ea
      have ew : (wR (.pick a b c) : Int) = (wR a : Int) + (wR b : Int) + (wR c : Int) + 2 := by show ((wR a + wR b + wR c + 2 : Nat) : Int) = _; omega
      have wb := wR_pos b
      have wc := wR_pos c
      simp only at e
      split at e
      · obtain ⟨⟨x1, x2, _⟩, hk2, hp2⟩ := gn_ml b s.2.1 hk1 hp1 e
        exact ⟨⟨by rw [ew]; omega, by rw [ew]; omega, fun z => by have : wR a + wR b + wR c + 2 = 1 := z; omega⟩, hk2, hp2⟩
      · obtain ⟨⟨x1, x2, _⟩, hk2, hp2⟩ := gn_ml c s.2.2 hk1 hp1 e
        exact ⟨⟨by rw [ew]; omega, by rw [ew]; omega, fun z => by have : wR a + wR b + wR c + 2 = 1 := z; omega⟩, hk2, hp2⟩
    | due x => rw [ea] at e; cases e
    | wrong => rw [ea] at e; cases e
  | .cho a ns, s, kn, ps, hk, hp, v, kn', ps', e => by
    simp only [gn] at e
    cases ea : gn a kn ps with
    | val u kn1 ps1 =>
      rw [ea] at e
      obtain ⟨b1, hk1, hp1⟩ := gn_ml a s hk hp ea
      simp only at e
      cases ep : pickN ns u with
      | none => rw [ep] at e; cases e
      | some y =>
        rw [ep] at e
        obtain ⟨h1, h2, h3⟩ := lookG_ml hk1 hp1 e
        exact ⟨bd_of h1, h2, h3⟩
    | due x => rw [ea] at e; cases e
    | wrong => rw [ea] at e; cases e
end RB

set_option maxRecDepth 100000
namespace RB
open PySem L2 PySem.Spec PyProof.Rows
theorem putK_keys {κ : Type} [DecidableEq κ] (kvs : List (κ × V)) (k : κ) (v : V) : (putK kvs k v).map (·.1) = if (kvs.any fun kv => decide (kv.1 = k)) = true then kvs.map (·.1) else kvs.map (·.1) ++ [k] := by
  unfold putK
  split
  · rw [List.map_map]
    apply List.map_congr_left
    intro p _
    show (if p.1 = k then (p.1, v) else p).1 = p.1
    split <;> rfl
  · rw [List.map_append]; rfl
theorem nms_put {kvs : List (Key × V)} {ns : List Str} (h : kvs.map (·.1) = ns.map Sum.inr) (hg : ∀ x ∈ ns, GName x) {x : Str} (hx : GName x) (v : V) : ∃ ms : List Str, (putK kvs (.inr x) v).map (·.1) = ms.map Sum.inr ∧ (∀ y ∈ ms, GName y) ∧ 1 ≤ ms.length ∧ ms.length ≤ ns.length + 1 := by
  rw [putK_keys]
  split
  · rename_i hc
    refine ⟨ns, h, hg, ?_, by omega⟩
    cases ns with
    | nil =>
      have : kvs = [] := by simpa using h
      subst this
      simp at hc
    | cons n ns => simp
  · refine ⟨ns ++ [x], by rw [h, List.map_append]; rfl, fun y hy => ?_, by rw [List.length_append]; simp, by rw [List.length_append]; simp⟩
    rcases List.mem_append.mp hy with z | z
    · exact hg y z
    · have : y = x := by simpa using z
      rw [this]; exact hx
theorem keys_list {kvs : List (Key × V)} {ns : List Str} (h : kvs.map (·.1) = ns.map Sum.inr) : kvs.map (fun kv => kV kv.1) = ns.map V.str := by
  have : kvs.map (fun kv => kV kv.1) = (kvs.map (·.1)).map kV := by rw [List.map_map]; rfl
  rw [this, h, List.map_map]; rfl
theorem slice_to {T : Str} {j : Nat} (hj : j ≤ T.length) : Txt.slice T none (some (j : Int)) = ⟨(T.cps.toList.take j).toArray⟩ := by
  have := slice_nat (T := T) (i := 0) (Nat.zero_le j) hj
  rw [List.drop_zero, Nat.sub_zero] at this
  rw [← this]
  unfold Txt.slice
  rfl
theorem name_to {x : Str} (hx : GName x) {n : Int} (h0 : 0 ≤ n) (h1 : n < (x.length : Int)) : GName (Txt.slice x none (some (1 + n))) := by
  obtain ⟨j, rfl⟩ := Int.eq_ofNat_of_zero_le h0
  rw [show (1 + (j : Int)) = ((j + 1 : Nat) : Int) by omega, slice_to (by omega)]
  have hl : (⟨(x.cps.toList.take (j + 1)).toArray⟩ : Str).length = j + 1 := by
    show (x.cps.toList.take (j + 1)).toArray.size = _
    rw [List.size_toArray, List.length_take]
    have : x.cps.toList.length = x.length := rfl
    omega
  refine ⟨by omega, by have := hx.2.1; omega, fun c hc => hx.2.2 c (List.mem_of_mem_take (by simpa using hc))⟩
theorem join_len {ts : List Str} (h : ∀ x ∈ ts, OneLow x) : (Txt.join "" ts).length = ts.length := by
  have q : ∀ l : List Str, (∀ x ∈ l, OneLow x) → ((l.map fun x => x.cps.toList).flatten).length = l.length := by
    intro l
    induction l with
    | nil => intro _; simp
    | cons x r ih =>
      intro hl
      obtain ⟨c, rfl, hc⟩ := hl x List.mem_cons_self
      have i1 := ih fun y hy => hl y (List.mem_cons_of_mem _ hy)
      rw [List.map_cons, List.flatten_cons, List.length_append, i1, List.length_cons]
      show 1 + r.length = r.length + 1
      omega
  rw [← q ts h, ← join_empty]; simp [Str.length]
end RB

set_option maxRecDepth 100000
namespace RB
open PySem L2 PySem.Spec PyProof.Rows
noncomputable def stK (l h : Addr) (du wr : V) : List (Key × V) := [(.inr "left", .ref l), (.inr "had", .ref h), (.inr "due", du), (.inr "wrong", wr)]
section
variable {H : Hp} {s l h : Addr} {du wr : V}
theorem st_left (e : H s = some (.dK (stK l h du wr))) : DGet H s (.str "left") (some (.ref l)) := DGet.k (k := .inr "left") e
theorem st_had (e : H s = some (.dK (stK l h du wr))) : DGet H s (.str "had") (some (.ref h)) := DGet.k (k := .inr "had") e
theorem st_due (e : H s = some (.dK (stK l h du wr))) : DGet H s (.str "due") (some du) := DGet.k (k := .inr "due") e
theorem st_wrong (e : H s = some (.dK (stK l h du wr))) : DGet H s (.str "wrong") (some wr) := DGet.k (k := .inr "wrong") e
theorem st_put_due (e : H s = some (.dK (stK l h du wr))) (v : V) : DPut H s (.str "due") v (upd H s (.dK (stK l h v wr))) := DPut.k (k := .inr "due") e (small1000 (by show 4 ≤ 1000; decide))
theorem st_put_wrong (e : H s = some (.dK (stK l h du wr))) (v : V) : DPut H s (.str "wrong") v (upd H s (.dK (stK l h du v))) := DPut.k (k := .inr "wrong") e (small1000 (by show 4 ≤ 1000; decide))
end
structure StAt (H : Hp) (s l h : Addr) (kn : Kn) (ps : List Rdp) : Prop where
  e : H s = some (.dK (stK l h .non (.bl false)))
  el : ∃ as, H l = some (.lst (as.map V.ref)) ∧ IsRds H as ps
  eh : ∃ kvs : List (Key × V), H h = some (.dK kvs) ∧ (∀ x, valV kvs (.inr x) = (kn x).map V.int) ∧ kvs.length + ps.length ≤ 1000
  ne : s ≠ h
section
variable {H H' : Hp} {s l h : Addr} {kn : Kn} {ps : List Rdp}
theorem StAt.sl (a : StAt H s l h kn ps) : s ≠ l := fun z => by
  obtain ⟨as, e, _⟩ := a.el
  have := a.e
  rw [z, e] at this; cases this
theorem StAt.hl (a : StAt H s l h kn ps) : h ≠ l := fun z => by
  obtain ⟨as, e, _⟩ := a.el
  obtain ⟨kvs, e', _⟩ := a.eh
  rw [z, e] at e'; cases e'
theorem StAt.tups (a : StAt H s l h kn ps) (b : But [s, l, h] H H') : Tups H H' := fun p xs q => b p _ (fun z => by
  obtain ⟨as, e, _⟩ := a.el
  obtain ⟨kvs, e', _⟩ := a.eh
  have : p = s ∨ p = l ∨ p = h := by simpa using z
  rcases this with rfl | rfl | rfl
  · rw [a.e] at q; cases q
  · rw [e] at q; cases q
  · rw [e'] at q; cases q) q
noncomputable def GPost (s l h : Addr) (H : Hp) (Q : VK) : Gr → Prop
  | .val v kn ps => ∀ H', But [s, l, h] H H' → StAt H' s l h kn ps → Q (.int v) H'
  | .due x => ∀ p H', But [s, l, h] H H' → H' s = some (.dK (stK l h (.ref p) (.bl false))) → H' p = some (.tup [.str "read", .str x]) → Q .non H'
  | .wrong => ∀ H', But [s, l, h] H H' → H' s = some (.dK (stK l h .non (.bl true))) → Q .non H'
noncomputable def spLook : Sp := fun vs H Q _ => ∃ (x : Str) (s l h : Addr) (kn : Kn) (ps : List Rdp), vs = [.str x, .ref s] ∧ StAt H s l h kn ps ∧ GPost s l h H Q (lookG x kn ps)
noncomputable def spGone (d : Nat) : Sp := fun vs H Q _ => ∃ (a s l h : Addr) (r : R) (kn : Kn) (ps : List Rdp), vs = [.ref a, .ref s] ∧ IsR H a r ∧ r.depth ≤ d ∧ r.Sml ∧ r.Tm ∧ r.Good ∧ wR r ≤ 1000 ∧ kn.Ml ∧ (∀ p ∈ ps, -1000000 ≤ p.2 ∧ p.2 ≤ 1000000) ∧ StAt H s l h kn ps ∧ GPost s l h H Q (gn r kn ps)
end
noncomputable def opK (u v : Int) : List (Key × V) := [(.inr "plus", .int (u + v)), (.inr "minus", .int (u - v)), (.inr "times", .int (u * v)), (.inr "most", .int (if v > u then v else u))]
theorem dget_op (op : Op) {H : Hp} {p : Addr} {u v : Int} (z : H p = some (.dK (mergeK [] (opK u v)))) : DGet H p (.str op.word) (some (.int (op.ap u v))) := by
  cases op
  · exact DGet.k (k := .inr "plus") z
  · exact DGet.k (k := .inr "minus") z
  · exact DGet.k (k := .inr "times") z
  · exact DGet.k (k := .inr "most") z
theorem StAt.same {H H' : Hp} {s l h : Addr} {kn : Kn} {ps : List Rdp} (a : StAt H s l h kn ps) (S : Same H H') : StAt H' s l h kn ps := by
  obtain ⟨e, ⟨as, e1, r⟩, ⟨kvs, e2, k1, k2⟩, ne⟩ := a
  exact ⟨S _ _ e, ⟨as, S _ _ e1, r.same S⟩, ⟨kvs, S _ _ e2, k1, k2⟩, ne⟩
theorem Bd.cm {r : R} {u v : Int} (b : Bd r u) (h : wR r ≤ 1000) : CMul u v := .inl ⟨by have := b.1; omega, by have := b.2.1; omega⟩
end RB
namespace RB
open PySem L2 PySem.Spec PyProof.Rows
noncomputable def LBPost (H : Hp) (Q : VK) : Option (Str ⊕ Int) → Prop
  | none => ∀ H', Same H H' → Q .non H'
  | some (.inl x) => ∀ p H', Same H H' → H' p = some (.tup [.str "read", .str x]) → Q (.ref p) H'
  | some (.inr v) => ∀ p H', Same H H' → H' p = some (.tup [.str "worth", .int v]) → Q (.ref p) H'
/-- what the law's own `behind` answers -/
noncomputable def spLB : Sp := fun vs H Q _ => ∃ (b l : Addr) (r : R) (as : List Addr) (ps : List Rdp), vs = [.ref b, .ref l] ∧ IsR H b r ∧ r.depth ≤ 8 ∧ r.Sml ∧ r.Tm ∧ r.Good ∧ wR r ≤ 1000 ∧ H l = some (.lst (as.map V.ref)) ∧ IsRds H as ps ∧ ps.length ≤ 100 ∧ (∀ p ∈ ps, GName p.1 ∧ -1000000 ≤ p.2 ∧ p.2 ≤ 1000000) ∧ LBPost H Q (bh r kn0 ps)
theorem kn0_ml : kn0.Ml := fun x v h => by cases h
noncomputable def stK0 (l h : Addr) : List (Key × V) := [(.inr "left", .ref l), (.inr "had", .ref h), (.inr "due", .non), (.inr "wrong", .bl false)]
theorem stK0_merge (l h : Addr) : mergeK [] (stK0 l h) = stK l h .non (.bl false) := rfl
end RB
namespace RB
open PySem L2 PySem.Spec PyProof.Rows
noncomputable def rdD (p : Rdp) : PyData := .tuple [.str p.1, .int p.2]
theorem rds_datVs {K : PySem.W.Frag} {H : Hp} : ∀ {as : List Addr} {ps : List Rdp}, IsRds H as ps → DatVs K H (as.map V.ref) (ps.map rdD)
  | _, _, .nil => .nil
  | _, _, .cons h t => .cons (.tup (SqT.of h) (.cons (.str _) (.cons (.int _) .nil))) (rds_datVs t)
theorem rds_lay : ∀ ps : List Rdp, (∀ p ∈ ps, GName p.1) → PyData.canLayAll0 (ps.map rdD) = true ∧ PyData.depthAll (ps.map rdD) ≤ 4
  | [], _ => ⟨rfl, by decide⟩
  | p :: r, h => by
    obtain ⟨h1, h2⟩ := rds_lay r fun y hy => h y (List.mem_cons_of_mem _ hy)
    have hs := strOk_name (h p List.mem_cons_self)
    constructor
    · show ((PyData.strOk p.1 && (true && true)) && PyData.canLayAll0 _) = true
      rw [h1, hs]; rfl
    · have e1 : (rdD p).depth ≤ 4 := by simp only [rdD, PyData.depthAll, PyData.depth]; omega
      simp only [List.map_cons, PyData.depthAll]
      omega
theorem rds_shaped {ps : List Rdp} (h : ∀ p ∈ ps, GName p.1) : SeqAt.shaped (.list (ps.map rdD)) = true := by
  obtain ⟨h1, h2⟩ := rds_lay ps h
  have h4 : (PyData.list (ps.map rdD)).depth ≤ 64 := by simp only [PyData.depth]; omega
  have h5 : (PyData.list (ps.map rdD)).canLay0 = true := by simp only [PyData.canLay0]; exact h1
  show (_ && decide _) = true
  rw [h5, decide_eq_true h4]; rfl
end RB

set_option maxRecDepth 100000
namespace RB
open PySem L2 PySem.Spec PyProof.Rows
noncomputable def unk (ns : List Str) (kn : Kn) : Nat := (ns.filter fun x => (kn x).isNone).length
theorem unk_le (ns : List Str) (kn : Kn) : unk ns kn ≤ ns.length := List.length_filter_le _ _
theorem unk_mono {kn kn' : Kn} (h : Kn.Le kn kn') : ∀ ns, unk ns kn' ≤ unk ns kn
  | [] => Nat.le_refl _
  | x :: ns => by
    have ih := unk_mono h ns
    unfold unk at ih ⊢
    rw [List.filter_cons, List.filter_cons]
    cases e : kn x with
    | some v => rw [h x v e]; simpa using ih
    | none =>
      cases e' : kn' x with
      | some v => simp; omega
      | none => simpa using ih
theorem unk_put {kn : Kn} {x : Str} {v : Int} (hk : kn x = none) : ∀ {ns : List Str}, x ∈ ns → unk ns (kn.put x v) + 1 ≤ unk ns kn
  | [], h => by cases h
  | y :: ns, h => by
    by_cases hy : y = x
    · subst hy
      have := unk_mono (Kn.le_put (v := v) hk) ns
      unfold unk at this ⊢
      rw [List.filter_cons, List.filter_cons, hk]
      have e : kn.put y v y = some v := by unfold Kn.put; rw [if_pos rfl]
      rw [e]
      simp; omega
    · have hm : x ∈ ns := by
        rcases List.mem_cons.mp h with z | z
        · exact absurd z.symm hy
        · exact z
      have ih := unk_put (v := v) hk hm
      have e : kn.put x v y = kn y := by unfold Kn.put; rw [if_neg hy]
      unfold unk at ih ⊢
      rw [List.filter_cons, List.filter_cons, e]
      split
      · simp only [List.length_cons]; omega
      · exact ih
theorem bh_some {r : R} : ∀ {ps : List Rdp} {kn : Kn} {y : Str ⊕ Int}, bh r kn ps = some y → y = ev (kn.puts ps) r
  | [], kn, y, h => by cases h; rfl
  | p :: ps, kn, y, h => by
    rw [bh_cons] at h
    split at h
    · split at h
      · exact bh_some (ps := ps) h
      · cases h
    · cases h
theorem bh_snoc {r : R} {x : Str} {v : Int} : ∀ {ps : List Rdp} {kn : Kn}, bh r kn ps = some (.inl x) → bh r kn (ps ++ [(x, v)]) = some (ev (kn.puts (ps ++ [(x, v)])) r)
  | [], kn, h => by
    have h : some (ev kn r) = some (.inl x) := h
    show bh r kn [(x, v)] = _
    rw [bh_cons, Option.some.inj h]
    simp only
    rw [if_pos trivial]; rfl
  | p :: ps, kn, h => by
    rw [List.cons_append]
    rw [bh_cons] at h ⊢
    split at h
    · rename_i y ey
      split at h
      · rename_i hy
        rw [if_pos hy]
        exact bh_snoc (ps := ps) h
      · cases h
    · cases h
theorem ev_in {ns : List Str} : ∀ {r : R} {kn : Kn} {x : Str}, r.In ns → ev kn r = .inl x → x ∈ ns
  | .num n, kn, x, i, h => by cases h
  | .rd y, kn, x, i, h => by obtain ⟨rfl, _⟩ := look_none h; exact i
  | .bin op a b, kn, x, i, h => by
    simp only [ev] at h
    cases ea : ev kn a with
    | inl y => rw [ea] at h; cases h; exact ev_in i.1 ea
    | inr u =>
      rw [ea] at h
      cases eb : ev kn b with
      | inl y => rw [eb] at h; cases h; exact ev_in i.2 eb
      | inr v => rw [eb] at h; cases h
  | .pick a b c, kn, x, i, h => by
    simp only [ev] at h
    cases ea : ev kn a with
    | inl y => rw [ea] at h; cases h; exact ev_in i.1 ea
    | inr u =>
      rw [ea] at h
      simp only at h
      split at h
      · exact ev_in i.2.1 h
      · exact ev_in i.2.2 h
  | .cho a ms, kn, x, i, h => by
    simp only [ev] at h
    cases ea : ev kn a with
    | inl y => rw [ea] at h; cases h; exact ev_in i.1 ea
    | inr u =>
      rw [ea] at h
      simp only at h
      cases ep : pickN ms u with
      | none => rw [ep] at h; cases h
      | some y =>
        rw [ep] at h
        obtain ⟨rfl, _⟩ := look_none h
        exact i.2 _ (List.mem_of_getElem? ep)
noncomputable def DueAt (H : Hp) (t : Addr) : Str ⊕ Int → Prop
  | .inl x => H t = some (.tup [.str "read", .str x])
  | .inr v => H t = some (.tup [.str "worth", .int v])
theorem DueAt.same {H H' : Hp} {t : Addr} (S : Same H H') : ∀ {y : Str ⊕ Int}, DueAt H t y → DueAt H' t y
  | .inl _, h => S _ _ h
  | .inr _, h => S _ _ h
theorem lb_some {H : Hp} {Q : VK} {o : Option (Str ⊕ Int)} {y : Str ⊕ Int} (h : o = some y) (g : ∀ p H', Same H H' → DueAt H' p y → Q (.ref p) H') : LBPost H Q o := by
  subst h
  cases y with
  | inl x => exact g
  | inr v => exact g
noncomputable def Rdm (p : Rdp) : Prop := GName p.1 ∧ -1000000 ≤ p.2 ∧ p.2 ≤ 1000000
noncomputable def NumAt (H : Hp) (d : Addr) (ns : List Str) : Prop := ∃ kvs : List (Key × V), H d = some (.dK kvs) ∧ ∀ x ∈ ns, ∃ v, valV kvs (.inr x) = some (.int v) ∧ -1000000 ≤ v ∧ v ≤ 1000000
noncomputable def spAll : Sp := fun vs H Q _ => ∃ (b d : Addr) (r : R) (ns : List Str), vs = [.ref b, .ref d] ∧ IsR H b r ∧ r.depth ≤ 8 ∧ Rok ns r ∧ wR r ≤ 1000 ∧ NumAt H d ns ∧ (∀ x ∈ ns, GName x) ∧ ns.length ≤ 7 ∧
  ∀ t l as ps v H', Same H H' → H l = none → H' t = some (.tup [.ref l, .int v]) → H' l = some (.lst (as.map V.ref)) → IsRds H' as ps → ps.length ≤ 7 → (∀ p ∈ ps, Rdm p) → Q (.ref t) H'
end RB

set_option maxRecDepth 100000
namespace RB
open PySem L2 PySem.Spec PyProof.Rows
/-! ### expressions that make a row of reads -/
noncomputable def RdX (H : Hp) (xs : List V) (n : Nat) : Prop := ∃ (as : List Addr) (ps : List Rdp), xs = as.map V.ref ∧ IsRds H as ps ∧ ps.length ≤ n ∧ ∀ p ∈ ps, Rdm p
noncomputable def RdRow (H : Hp) (l : Addr) (n : Nat) : Prop := ∃ xs, H l = some (.lst xs) ∧ RdX H xs n
section
variable {H H' : Hp} {xs ys : List V} {n m : Nat}
theorem RdX.same (S : Same H H') (h : RdX H xs n) : RdX H' xs n := by
  obtain ⟨as, ps, e, r, h1, h2⟩ := h
  exact ⟨as, ps, e, r.same S, h1, h2⟩
theorem RdX.tups (S : Tups H H') (h : RdX H xs n) : RdX H' xs n := by
  obtain ⟨as, ps, e, r, h1, h2⟩ := h
  exact ⟨as, ps, e, r.tups S, h1, h2⟩
theorem IsRds.app : ∀ {as bs : List Addr} {ps qs : List Rdp}, IsRds H as ps → IsRds H bs qs → IsRds H (as ++ bs) (ps ++ qs)
  | _, _, _, _, .nil, h => h
  | _, _, _, _, .cons h t, g => .cons h (t.app g)
theorem IsRds.rev {as : List Addr} {ps : List Rdp} (h : IsRds H as ps) : IsRds H as.reverse ps.reverse := by
  induction h with
  | nil => exact .nil
  | cons h _ ih => rw [List.reverse_cons, List.reverse_cons]; exact ih.app (.cons h .nil)
theorem RdX.cut (h : RdX H xs n) (lo hi : Option Int) : RdX H (cutV xs lo hi) n := by
  obtain ⟨as, ps, rfl, r, h1, h2⟩ := h
  unfold cutV
  generalize HT.sIx (List.map V.ref as).length (List.map V.ref as).length hi - HT.sIx (List.map V.ref as).length 0 lo = j
  generalize HT.sIx (List.map V.ref as).length 0 lo = i
  refine ⟨(as.drop i).take j, (ps.drop i).take j, ?_, (r.drop i).take j, ?_, fun p hp => h2 p (List.mem_of_mem_drop (List.mem_of_mem_take hp))⟩
  · rw [List.map_take, List.map_drop]
  · rw [List.length_take, List.length_drop]; omega
theorem RdX.app (h : RdX H xs n) (g : RdX H ys m) : RdX H (xs ++ ys) (n + m) := by
  obtain ⟨as, ps, rfl, r, h1, h2⟩ := h
  obtain ⟨bs, qs, rfl, r', h1', h2'⟩ := g
  refine ⟨as ++ bs, ps ++ qs, by rw [List.map_append], r.app r', by rw [List.length_append]; omega, fun p hp => ?_⟩
  rcases List.mem_append.mp hp with z | z
  · exact h2 p z
  · exact h2' p z
theorem RdX.rev (h : RdX H xs n) : RdX H xs.reverse n := by
  obtain ⟨as, ps, rfl, r, h1, h2⟩ := h
  exact ⟨as.reverse, ps.reverse, by rw [List.map_reverse], r.rev, by rw [List.length_reverse]; exact h1, fun p hp => h2 p (by simpa using hp)⟩
theorem RdX.one {a : Addr} {p : Rdp} (e : H a = some (.tup (rdV p))) (hp : Rdm p) : RdX H [.ref a] 1 := by
  refine ⟨[a], [p], rfl, .cons e .nil, Nat.le_refl _, fun q hq => ?_⟩
  have : q = p := by simpa using hq
  rw [this]; exact hp
theorem RdX.len (h : RdX H xs n) : xs.length ≤ n := by
  obtain ⟨as, ps, rfl, r, h1, h2⟩ := h
  rw [List.length_map, r.length]; exact h1
theorem RdRow.same {l : Addr} (S : Same H H') (h : RdRow H l n) : RdRow H' l n := by
  obtain ⟨xs, e, r⟩ := h
  exact ⟨xs, S _ _ e, r.same S⟩
theorem RdX.at {l : Addr} (h : RdX H xs n) (hl : H l = none) : RdRow (upd H l (.lst xs)) l n := ⟨xs, upd_same, h.same (same_new _ hl)⟩
end
/-- from H0 on, this makes a new row of at most n reads -/
structure Mkr (H0 : Hp) (te : TE) (σ : L2.St) (n : Nat) : Prop where
  run : ∀ (H : Hp) (Q : VK), Same H0 H → (∀ p H', Same H H' → H p = none → RdRow H' p n → Q (.ref p) H') → te σ H Q
section
variable {H0 : Hp} {σ : L2.St} {n m : Nat} {K : PySem.W.Frag}
theorem Mkr.cat {ta tb : TE} (ha : Mkr H0 ta σ n) (hb : Mkr H0 tb σ m) (h : n + m ≤ 900) : Mkr H0 (tOp rCat ta tb) σ (n + m) := ⟨fun H Q S q => ha.run H _ S fun p1 H1 s1 h1 r1 => hb.run H1 _ (S.trans s1) fun p2 H2 s2 h2 r2 => by
  obtain ⟨xs, e1, x1⟩ := r1.same s2
  obtain ⟨ys, e2, x2⟩ := r2
  have l1 := x1.len
  have l2 := x2.len
  exact ⟨p1, p2, xs, ys, rfl, rfl, e1, e2, Nat.le_of_lt (small1000 (by omega)), fun p3 h3 => q p3 _ (s1.trans (s2.trans (same_new _ h3))) (same_none (s1.trans s2) h3) ((x1.app x2).at h3)⟩⟩
theorem Mkr.cut {i : Nat} {l : Addr} {tl th : TO} {lo hi : Option Int} (hi' : σ[i]? = some (some (.ref l))) (r : RdRow H0 l n) (hl : ∀ (H : Hp) (Q : Option Int → Hp → Prop), Q lo H → tl σ H Q) (hh : ∀ (H : Hp) (Q : Option Int → Hp → Prop), Q hi H → th σ H Q) : Mkr H0 (tSl (rSlL K) (tVar i) tl th) σ n := ⟨fun H Q S q => by
  obtain ⟨xs, e, x⟩ := r.same S
  exact ⟨_, hi', hl H _ (hh H _ ⟨l, xs, rfl, SqL.of e, fun p hp => q p _ (same_new _ hp) hp ((x.cut lo hi).at hp)⟩)⟩⟩
theorem Mkr.one {i : Nat} {a : Addr} {p : Rdp} (hi : σ[i]? = some (some (.ref a))) (e : H0 a = some (.tup (rdV p))) (hp : Rdm p) : Mkr H0 (tLst (tCons (tVar i) tNil)) σ 1 := ⟨fun H Q S q =>
  ⟨_, hi, (by show 1 ≤ sizeLine; rw [sizeLine_eq]; decide), fun l hl => q l _ (same_new _ hl) hl ((RdX.one (S _ _ e) hp).at hl)⟩⟩
theorem Mkr.rev {i : Nat} {l : Addr} {ts : TE} (hi : σ[i]? = some (some (.ref l))) (r : RdRow H0 l n) (hs : ∀ (H : Hp) (Q : VK), Q (.int (-1)) H → ts σ H Q) : Mkr H0 (tRev K (tVar i) ts) σ n := ⟨fun H Q S q => by
  obtain ⟨xs, e, x⟩ := r.same S
  exact ⟨_, hi, hs H _ ⟨l, xs, rfl, rfl, SqL.of e, fun p hp => q p _ (same_new _ hp) hp (x.rev.at hp)⟩⟩⟩
theorem Mkr.ret {te : TE} {D : L2.Ends} {H : Hp} (h : Mkr H0 te σ n) (S : Same H0 H) (q : ∀ p H', Same H H' → H p = none → RdRow H' p n → D.rt (.ref p) H') : tRet te D σ H := h.run H _ S q
theorem part0 (H : Hp) (Q : Option Int → Hp → Prop) (q : Q none H) : tNoPart σ H Q := q
theorem part1 {i : Nat} {v : Int} (hi : σ[i]? = some (some (.int v))) (H : Hp) (Q : Option Int → Hp → Prop) (q : Q (some v) H) : tPart (tVar i) σ H Q := ⟨_, hi, v, rfl, q⟩
theorem part2 {i : Nat} {v : Int} (hi : σ[i]? = some (some (.int v))) (H : Hp) (Q : Option Int → Hp → Prop) (q : Q (some (v + 1)) H) : tPart (tOp (rI0 fun i j => V.int (i + j)) (tVar i) (tC (.int 1))) σ H Q := ⟨_, hi, v, 1, rfl, rfl, v + 1, rfl, q⟩
end
noncomputable def spSpl : Sp := fun vs H Q _ => ∃ (l nl p : Addr) (ns : List Str) (c : Nat), vs = [.ref l, .ref nl, .ref p] ∧ RdRow H l 7 ∧ H nl = some (.lst (ns.map V.str)) ∧ 1 ≤ ns.length ∧ ns.length ≤ 7 ∧ (∀ x ∈ ns, GName x) ∧ PlAt H p c ∧ c ≤ 50000 ∧
  ∀ l2 H', But [p] H H' → PlAt H' p (c + 5) → RdRow H' l2 30 → Q (.ref l2) H'
theorem ev_gn : ∀ {r : R} {kn : Kn} {x : Str}, r.Good → ev kn r = .inl x → GName x
  | .num n, kn, x, i, h => by cases h
  | .rd y, kn, x, i, h => by obtain ⟨rfl, _⟩ := look_none h; exact i
  | .bin op a b, kn, x, i, h => by
    simp only [ev] at h
    cases ea : ev kn a with
    | inl y => rw [ea] at h; cases h; exact ev_gn i.1 ea
    | inr u =>
      rw [ea] at h
      cases eb : ev kn b with
      | inl y => rw [eb] at h; cases h; exact ev_gn i.2 eb
      | inr v => rw [eb] at h; cases h
  | .pick a b c, kn, x, i, h => by
    simp only [ev] at h
    cases ea : ev kn a with
    | inl y => rw [ea] at h; cases h; exact ev_gn i.1 ea
    | inr u =>
      rw [ea] at h
      simp only at h
      split at h
      · exact ev_gn i.2.1 h
      · exact ev_gn i.2.2 h
  | .cho a ms, kn, x, i, h => by
    simp only [ev] at h
    cases ea : ev kn a with
    | inl y => rw [ea] at h; cases h; exact ev_gn i.1 ea
    | inr u =>
      rw [ea] at h
      simp only at h
      cases ep : pickN ms u with
      | none => rw [ep] at h; cases h
      | some y =>
        rw [ep] at h
        obtain ⟨rfl, _⟩ := look_none h
        exact i.2.2.2 _ (List.mem_of_getElem? ep)
noncomputable def dueD : Str ⊕ Int → PyData
  | .inl x => .tuple [.str "read", .str x]
  | .inr v => .tuple [.str "worth", .int v]
theorem due_dat {K : PySem.W.Frag} {H : Hp} {t : Addr} : ∀ {y : Str ⊕ Int}, DueAt H t y → DatV K H (.ref t) (dueD y)
  | .inl _, h => .tup (SqT.of h) (.cons (.str _) (.cons (.str _) .nil))
  | .inr _, h => .tup (SqT.of h) (.cons (.str _) (.cons (.int _) .nil))
theorem due_shaped : ∀ {y : Str ⊕ Int}, (∀ x, y = .inl x → GName x) → SeqAt.shaped (dueD y) = true
  | .inl x, h => by
    have hs := strOk_name (h x rfl)
    have h5 : (PyData.canLay0 (dueD (.inl x))) = true := by
      show (PyData.strOk "read" && (PyData.strOk x && true)) = true
      rw [hs]; decide +kernel
    have h4 : (dueD (.inl x)).depth ≤ 64 := by simp only [dueD, PyData.depth, PyData.depthAll]; omega
    show (_ && decide _) = true
    rw [h5, decide_eq_true h4]; rfl
  | .inr v, _ => by
    have h5 : (PyData.canLay0 (dueD (.inr v))) = true := by
      show (PyData.strOk "worth" && (true && true)) = true
      decide +kernel
    have h4 : (dueD (.inr v)).depth ≤ 64 := by simp only [dueD, PyData.depth, PyData.depthAll]; omega
    show (_ && decide _) = true
    rw [h5, decide_eq_true h4]; rfl
end RB

set_option maxHeartbeats 4000000
namespace K50
open PySem L2 PySem.Spec PyProof.Rows RB
local macro_rules | `(tactic| walk_at "ne") => `(tactic| first | assumption | exact Ne.symm (by assumption) | exact ne_of_none (by assumption) (by assumption) | exact Ne.symm (ne_of_none (by assumption) (by assumption)))
local macro_rules | `(tactic| walk_at "heap") => `(tactic| first | assumption | exact upd_same | (refine (upd_ne (by walk_at "ne")).trans ?_; walk_at "heap"))
local macro_rules | `(tactic| walk_at "side") => `(tactic| first | with_reducible rfl | rfl | assumption | exact SqL.of (by walk_at "heap") | exact SqT.of (by walk_at "heap") | exact Or.inl (SqL.of (by walk_at "heap")) | exact Or.inr (SqT.of (by walk_at "heap")) | exact TyOf.str _ | exact TyOf.int _ | exact TyOf.bl _ | exact TyOf.tup (by walk_at "heap") | exact Or.inl ⟨rfl, _, SqL.of (by walk_at "heap")⟩ | exact Or.inl ⟨_, SqL.of (by walk_at "heap"), rfl⟩ | exact kit_same _ | exact Or.inl (by assumption) | exact Or.inr (by assumption) | walk_at "heap" | omega | (show _ ≤ sizeLine; decide) | (show _ < sizeLine; decide) | exact Or.inr ⟨by decide, by decide⟩ | exact Or.inl ⟨by decide, by decide⟩ | exact Or.inl ⟨by omega, by omega⟩ | exact Or.inr ⟨by omega, by omega⟩ | exact ⟨by omega, by decide⟩ | exact ⟨by omega, by assumption⟩ | exact ⟨by decide, by decide, by decide⟩ | exact ⟨_, SqT.of (by walk_at "heap")⟩ | exact ⟨_, SqL.of (by walk_at "heap")⟩ | (intro z; exact absurd (show (1 : Nat) = 0 from z.1) (by decide)) | (show Nat.log2 _ < 9000; decide +kernel) | ((rw [sizeLine_eq]); (try simp only [len_app]); omega) | exact Nat.le_of_lt (small1000 (by (simp only [List.length_cons, List.length_nil]); omega)) | decide +kernel)
local macro_rules | `(tactic| walk_at "v") => `(tactic| first
  | ((apply Exists.intro); (repeat apply Exists.intro); (refine And.intro ?_ ?_); walk_at "side")
  | ((refine And.intro ?_ ?_); walk_at "side"))
local macro_rules | `(tactic| walk_at "vs") => `(tactic| repeat walk_at "v")

noncomputable def top (i : Nat) : Stmt := PySem.Challenge.pw_madeagain_k50_behind_any_reads.main.body.getD i (.Pass ⟨0, 0, 0, 0⟩)
noncomputable def mtop (i j : Nat) : Stmt := match top i with
  | .ClassDef _ _ _ b _ _ _ _ _ _ _ => b.getD j (.Pass ⟨0, 0, 0, 0⟩)
  | _ => .Pass ⟨0, 0, 0, 0⟩

section
local macro_rules | `(tactic| walk_at "side") => `(tactic| first | exact lk_todo _ _ _ | exact lk_found _ _ _ | exact lk_reads _ _ _ | exact lk_go _ _ _ | exact lk_lack _ _ _ | exact Nat.le_of_ble_eq_true rfl)
variable {P : Program} {w : World} {K : PySem.W.Frag} {mg : Str → Option Value} {base : Heap} {C : Addr}
noncomputable abbrev s_joined : Stmt := top 10
theorem sc_joined : FnScope ["kind", "r", "s"] ["kind", "r", "s"] (defScope s_joined) := ⟨rfl, rfl, rfl, by decide +kernel, rfl, by decide +kernel, by decide +kernel⟩
theorem vo_joined_kind : VarOk (defScope s_joined) "kind" := by decide +kernel
theorem vo_joined_r : VarOk (defScope s_joined) "r" := by decide +kernel
theorem vo_joined_s : VarOk (defScope s_joined) "s" := by decide +kernel
theorem gl_joined_max : (defScope s_joined).names.lookup ("max" : Str) = some NameKind.globalImplicit := by decide +kernel
theorem nn_joined_max : ("max" : Str) ≠ "__name__" := by decide +kernel
theorem db_joined_max : (("max" : Str) == ("__debug__" : Str)) = false := by decide +kernel
theorem ok_joined {f : Addr} {fd : FuncData} (T_joined : FnT K mg "joined" s_joined ["kind", "r", "s"] f fd) (T : Blt mg) : FnOk P w K mg base CX0 1 f fd ["kind", "r", "s"] spJoinK := by
  refine T_joined.F.okQ sc_joined (fun vs H Q E h => ?_) (fun cdv A outer s H vs Q E hr h => ?_)
  · obtain ⟨op, u, v, rfl, _⟩ := h
    rfl
  obtain ⟨op, u, v, rfl, hm, q⟩ := h
  refine ⟨_, (qss_cons (qs_if (qt_cmp qop_eq (qe_var 0 vo_joined_kind) qe_str (nomarkQ _)) (qss_one (qs_ret (qe_op qop_add (qe_var 1 vo_joined_r) (qe_var 2 vo_joined_s)))) qss_nil)
    (qss_cons (qs_if (qt_cmp qop_eq (qe_var 0 vo_joined_kind) qe_str (nomarkQ _)) (qss_one (qs_ret (qe_op qop_sub (qe_var 1 vo_joined_r) (qe_var 2 vo_joined_s)))) qss_nil)
    (qss_cons (qs_if (qt_cmp qop_eq (qe_var 0 vo_joined_kind) qe_str (nomarkQ _)) (qss_one (qs_ret (qe_op qop_mul (qe_var 1 vo_joined_r) (qe_var 2 vo_joined_s)))) qss_nil)
    (qss_one (qs_ret (qe_callB (qc_max2 rfl) gl_joined_max T.b_max bt_max (qa_N (qe_var 1 vo_joined_r) (qa_N (qe_var 2 vo_joined_s) qa_nil)) nn_joined_max db_joined_max)))))), ?_⟩
  cases op with
  | plus => walk_at "vs"; exact q
  | minus => walk_at "vs"; exact q
  | times =>
    have hm := hm rfl
    walk_at "vs"; exact q
  | most => walk_at "vs"; exact q
noncomputable abbrev s__init__ : Stmt := mtop 11 0
theorem sc__init__ : FnScope ["self", "r"] ["self", "r"] (defScope s__init__) := ⟨rfl, rfl, rfl, by decide +kernel, rfl, by decide +kernel, by decide +kernel⟩
theorem vo__init___self : VarOk (defScope s__init__) "self" := by decide +kernel
theorem vo__init___r : VarOk (defScope s__init__) "r" := by decide +kernel
theorem ok__init__ {f : Addr} {fd : FuncData} (T__init__ : MthT K C "__init__" "Reckoning.__init__" s__init__ ["self", "r"] f fd) (rc : RkC K C) : FnOk P w K mg base CX0 1 f fd ["self", "r"] (spRkInit C) := by
  refine T__init__.F.okQ sc__init__ (fun vs H Q E h => ?_) (fun cdv A outer s H vs Q E hr h => ?_)
  · obtain ⟨a, dx, b, r, rfl, _⟩ := h
    rfl
  obtain ⟨a, dx, b, r, rfl, e, hR, hw, q⟩ := h
  have cR := rc.cl
  have nT := rc.nT
  have nF := rc.nF
  have nR := rc.nR
  refine ⟨_, (qss_cons (qs_fld (qe_var 0 vo__init___self) (qe_lst (qa_N (qe_var 1 vo__init___r) qa_nil)))
    (qss_cons (qs_fld (qe_var 0 vo__init___self) (qe_lst qa_nil))
    (qss_one (qs_fld (qe_var 0 vo__init___self) qe_dnewK)))), ?_⟩
  walk_at "vs"
  intro a1 h1
  have e1 : upd H a1 (.lst [V.ref b]) a = some (.ins C dx []) := (upd_ne (ne_of_none e h1)).trans e
  walk_at "vs"
  intro a2 h2
  obtain ⟨n2a, h2⟩ := upd_none h2
  obtain ⟨n21, h2⟩ := upd_none h2
  have e2 : upd (upd (upd H a1 (.lst [V.ref b])) a (.ins C dx (putF "todo" (.ref a1) []))) a2 (.lst []) a = some (.ins C dx (putF "todo" (.ref a1) [])) := (upd_ne (Ne.symm n2a)).trans upd_same
  walk_at "vs"
  intro a3 h3
  obtain ⟨n3a, h3⟩ := upd_none h3
  obtain ⟨n32, h3⟩ := upd_none h3
  obtain ⟨_, h3⟩ := upd_none h3
  obtain ⟨n31, h3⟩ := upd_none h3
  have e3 : upd (upd (upd (upd (upd H a1 (.lst [V.ref b])) a (.ins C dx (putF "todo" (.ref a1) []))) a2 (.lst [])) a (.ins C dx (putF "found" (.ref a2) (putF "todo" (.ref a1) [])))) a3 (.dK []) a = some (.ins C dx (putF "found" (.ref a2) (putF "todo" (.ref a1) []))) := (upd_ne (Ne.symm n3a)).trans upd_same
  walk_at "vs"
  have n1a : a1 ≠ a := fun z => by rw [z, e] at h1; cases h1
  refine q a1 a2 a3 _ (fun p o hp z => ?_) h1 h2 h3 ⟨upd_same, ⟨[.ref b], ?_, .cons (.r ?_) .nil⟩, ?_, ?_, Ne.symm n21, ?_⟩
  · have hp : p ≠ a := by simpa using hp
    rw [upd_ne hp, upd_ne (ne_of_none z h3), upd_ne hp, upd_ne (ne_of_none z h2), upd_ne hp, upd_ne (ne_of_none z h1)]; exact z
  · rw [upd_ne n1a, upd_ne (Ne.symm n31), upd_ne n1a, upd_ne (Ne.symm n21), upd_ne n1a]; exact upd_same
  · refine hR.tups fun p xs z => ?_
    have hp : p ≠ a := fun y => by rw [y, e] at z; cases z
    rw [upd_ne hp, upd_ne (ne_of_none z h3), upd_ne hp, upd_ne (ne_of_none z h2), upd_ne hp, upd_ne (ne_of_none z h1)]; exact z
  · rw [upd_ne n2a, upd_ne (Ne.symm n32), upd_ne n2a]; exact upd_same
  · rw [upd_ne n3a]; exact upd_same
  · show 0 + 0 + 2 * (wR r + 0) ≤ 10000; omega
noncomputable abbrev s_go_on : Stmt := mtop 11 2
theorem sc_go_on : FnScope ["self", "step", "kind", "names", "s", "r"] ["self", "step"] (defScope s_go_on) := ⟨rfl, rfl, rfl, by decide +kernel, rfl, by decide +kernel, by decide +kernel⟩
theorem lo_go_on_kind : Loc (defScope s_go_on) "kind" := by decide +kernel
theorem vo_go_on_step : VarOk (defScope s_go_on) "step" := by decide +kernel
theorem vo_go_on_kind : VarOk (defScope s_go_on) "kind" := by decide +kernel
theorem vo_go_on_self : VarOk (defScope s_go_on) "self" := by decide +kernel
theorem lo_go_on_names : Loc (defScope s_go_on) "names" := by decide +kernel
theorem vo_go_on_names : VarOk (defScope s_go_on) "names" := by decide +kernel
theorem gl_go_on_len : (defScope s_go_on).names.lookup ("len" : Str) = some NameKind.globalImplicit := by decide +kernel
theorem nn_go_on_len : ("len" : Str) ≠ "__name__" := by decide +kernel
theorem db_go_on_len : (("len" : Str) == ("__debug__" : Str)) = false := by decide +kernel
theorem lo_go_on_s : Loc (defScope s_go_on) "s" := by decide +kernel
theorem lo_go_on_r : Loc (defScope s_go_on) "r" := by decide +kernel
theorem gl_go_on_joined : (defScope s_go_on).names.lookup ("joined" : Str) = some NameKind.globalImplicit := by decide +kernel
theorem vo_go_on_s : VarOk (defScope s_go_on) "s" := by decide +kernel
theorem vo_go_on_r : VarOk (defScope s_go_on) "r" := by decide +kernel
theorem db_go_on_joined : (("joined" : Str) == ("__debug__" : Str)) = false := by decide +kernel
theorem ok_go_on {f g : Addr} {fd gd : FuncData} (T_go_on : MthT K C "go_on" "Reckoning.go_on" s_go_on ["self", "step"] f fd) (T_joined : FnT K mg "joined" s_joined ["kind", "r", "s"] g gd) (G_joined : FnOk P w K mg base CX0 1 g gd ["kind", "r", "s"] spJoinK)
    (T : Blt mg) (rc : RkC K C) : FnOk P w K mg base CX0 2 f fd ["self", "step"] (spGo C) := by
  refine T_go_on.F.okQ sc_go_on (fun vs H Q E h => ?_) (fun cdv A outer s H vs Q E hr h => ?_)
  · obtain ⟨a, dx, a1, a2, a3, v, s, t, f, d, kn, c, rfl, _⟩ := h
    rfl
  obtain ⟨a, dx, a1, a2, a3, v, st, t, fo, d, kn, c, rfl, rca, hst, hno, h1, hw, q⟩ := h
  have cR := rc.cl
  have nT := rc.nT
  have nF := rc.nF
  have nR := rc.nR
  have n13 := rca.n13
  have n23 := rca.n23
  obtain ⟨e, ⟨ws, e1, hws⟩, e2, e3, ne, hw0⟩ := id rca
  have e2 : H a2 = some (.lst (fo.map V.int)) := e2
  have e3 : H a3 = some (.dK (rdK d)) := e3
  refine ⟨_, (qss_cons (qs_set (i := 2) sc_go_on.nd rfl lo_go_on_kind (qe_ix qix_tup (qe_var 1 vo_go_on_step) qe_int))
    (qss_one (qs_if (qt_cmp qop_eq (qe_var 2 vo_go_on_kind) qe_str (nomarkQ _)) (qss_one (qs_expr (qe_bm PySem.F.plainAttrs_list PySem.F.slot_list_append PySem.F.type_list_append qmt_append (qe_fld (qe_var 0 vo_go_on_self)) (qa_S (qe_ix qix_tup (qe_var 1 vo_go_on_step) qe_int) qa_nil)))) (qss_one (qs_if (qt_cmp qop_eq (qe_var 2 vo_go_on_kind) qe_str (nomarkQ _)) (qss_one (qs_expr (qe_bm PySem.F.plainAttrs_list PySem.F.slot_list_extend PySem.F.type_list_extend qmt_extend (qe_fld (qe_var 0 vo_go_on_self)) (qa_L (qe_lst (qa_T (qe_tup (qa_C qe_str (qa_S (qe_ix qix_tup (qe_var 1 vo_go_on_step) qe_int) (qa_S (qe_ix qix_tup (qe_var 1 vo_go_on_step) qe_int) qa_nil)))) (qa_S (qe_ix qix_tup (qe_var 1 vo_go_on_step) qe_int) qa_nil))) qa_nil)))) (qss_one (qs_if (qt_cmp qop_eq (qe_var 2 vo_go_on_kind) qe_str (nomarkQ _)) (qss_one (qs_expr (qe_bm PySem.F.plainAttrs_list PySem.F.slot_list_extend PySem.F.type_list_extend qmt_extend (qe_fld (qe_var 0 vo_go_on_self)) (qa_L (qe_lst (qa_T (qe_tup (qa_C qe_str (qa_S (qe_ix qix_tup (qe_var 1 vo_go_on_step) qe_int) qa_nil))) (qa_S (qe_ix qix_tup (qe_var 1 vo_go_on_step) qe_int) qa_nil))) qa_nil)))) (qss_one (qs_if (qt_cmp qop_eq (qe_var 2 vo_go_on_kind) qe_str (nomarkQ _)) (qss_one (qs_expr (qe_bm PySem.F.plainAttrs_list PySem.F.slot_list_append PySem.F.type_list_append qmt_append (qe_fld (qe_var 0 vo_go_on_self)) (qa_I (qe_ifExp (qt_cmp qop_gt (qe_bm0 PySem.F.plainAttrs_list PySem.F.slot_list_pop PySem.F.type_list_pop qmt_pop (qe_fld (qe_var 0 vo_go_on_self))) qe_int (nomarkQ _)) (qe_ix qix_tup (qe_var 1 vo_go_on_step) qe_int) (qe_ix qix_tup (qe_var 1 vo_go_on_step) qe_int)) qa_nil)))) (qss_one (qs_if (qt_cmp qop_eq (qe_var 2 vo_go_on_kind) qe_str (nomarkQ _)) (qss_cons (qs_set (i := 3) sc_go_on.nd rfl lo_go_on_names (qe_ix qix_tup (qe_var 1 vo_go_on_step) qe_int))
    (qss_one (qs_expr (qe_bm PySem.F.plainAttrs_list PySem.F.slot_list_append PySem.F.type_list_append qmt_append (qe_fld (qe_var 0 vo_go_on_self)) (qa_T (qe_tup (qa_C qe_str (qa_S (qe_ix qix_tup (qe_var 3 vo_go_on_names) (qe_op qop_mod (qe_bm0 PySem.F.plainAttrs_list PySem.F.slot_list_pop PySem.F.type_list_pop qmt_pop (qe_fld (qe_var 0 vo_go_on_self))) (qe_callB qc_len_seq gl_go_on_len T.b_len bt_len (qa_N (qe_var 3 vo_go_on_names) qa_nil) nn_go_on_len db_go_on_len))) qa_nil))) qa_nil))))) (qss_one (qs_if (qt_cmp qop_eq (qe_var 2 vo_go_on_kind) qe_str (nomarkQ _)) (qss_cons (qs_set (i := 4) sc_go_on.nd rfl lo_go_on_s (qe_bm0 PySem.F.plainAttrs_list PySem.F.slot_list_pop PySem.F.type_list_pop qmt_pop (qe_fld (qe_var 0 vo_go_on_self))))
    (qss_cons (qs_set (i := 5) sc_go_on.nd rfl lo_go_on_r (qe_bm0 PySem.F.plainAttrs_list PySem.F.slot_list_pop PySem.F.type_list_pop qmt_pop (qe_fld (qe_var 0 vo_go_on_self))))
    (qss_one (qs_expr (qe_bm PySem.F.plainAttrs_list PySem.F.slot_list_append PySem.F.type_list_append qmt_append (qe_fld (qe_var 0 vo_go_on_self)) (qa_F (qe_call (G_joined.mono (by omega)) hr gl_go_on_joined T_joined.m T_joined.F.kp T_joined.b .nil pass0 (qa_S (qe_ix qix_tup (qe_var 1 vo_go_on_step) qe_int) (qa_N (qe_var 5 vo_go_on_r) (qa_N (qe_var 4 vo_go_on_s) qa_nil))) db_go_on_joined) qa_nil)))))) (qss_one (qs_expr (qe_bm PySem.F.plainAttrs_list PySem.F.slot_list_extend PySem.F.type_list_extend qmt_extend (qe_fld (qe_var 0 vo_go_on_self)) (qa_L (qe_lst (qa_T (qe_tup (qa_C qe_str (qa_N (qe_var 2 vo_go_on_kind) qa_nil))) (qa_S (qe_ix qix_tup (qe_var 1 vo_go_on_step) qe_int) (qa_S (qe_ix qix_tup (qe_var 1 vo_go_on_step) qe_int) qa_nil)))) qa_nil))))))))))))))))), ?_⟩
  have hi := h1.inv _ _ rfl
  have hlw : ws.length = t.length := hws.length
  have hlt := len_wT t
  have hw1 : d.length + fo.length + 2 * wT t ≤ 10000 := hw0
  cases hst with
  | @r b r hr' =>
    cases hr' with
    | @num _ n eb =>
      have hi : c = ⟨t, fo ++ [n], d⟩ := hi
      have hz : (fo.map V.int).length < sizeLine := by rw [List.length_map, sizeLine_eq]; omega
      subst hi
      walk_at "vs"
      have b : But [a1, a2, a3] H (upd H a2 (.lst (fo.map V.int ++ [V.int n]))) := But.set _ (by simp)
      exact q _ b (rca.next b ((upd_ne ne).trans e1) (hws.tups (rca.lists b)) (by rw [upd_same, List.map_append]; rfl) ((upd_ne (Ne.symm n23)).trans e3) hw)
    | rd eb => exact absurd rfl (hno _)
    | @bin _ x y op ra rb eb hx hy =>
      have hi : c = ⟨t ++ [.join op, .r rb, .r ra], fo, d⟩ := hi
      subst hi
      have hz : ∀ p : Addr, ws.length + [V.ref p, V.ref y, V.ref x].length ≤ sizeLine := fun p => by rw [sizeLine_eq]; show ws.length + 3 ≤ _; omega
      have hat0 : atI [V.str op.word, V.ref x, V.ref y] 0 = some (.str op.word) := atI_nat (j := 0) rfl
      have hat1 : atI [V.str op.word, V.ref x, V.ref y] 1 = some (.ref x) := atI_nat (j := 1) rfl
      have hat2 : atI [V.str op.word, V.ref x, V.ref y] 2 = some (.ref y) := atI_nat (j := 2) rfl
      have fin : ∀ p1 p2, H p1 = none → upd H p1 (.tup [V.str "join", V.str op.word]) p2 = none → Q .non (upd (upd (upd H p1 (.tup [V.str "join", V.str op.word])) p2 (.lst [V.ref p1, V.ref y, V.ref x])) a1 (.lst (ws ++ [V.ref p1, V.ref y, V.ref x]))) := fun p1 p2 h1 h2 => by
        have b : But [a1, a2, a3] H (upd (upd (upd H p1 (.tup [V.str "join", V.str op.word])) p2 (.lst [V.ref p1, V.ref y, V.ref x])) a1 (.lst (ws ++ [V.ref p1, V.ref y, V.ref x]))) := (But.new _ h1).trans ((But.new _ h2).trans (But.set _ (by simp)))
        have tp := rca.lists b
        have n1 : p1 ≠ a1 := fun z => by rw [z, e1] at h1; cases h1
        have n2 : p1 ≠ p2 := fun z => by rw [← z, upd_same] at h2; cases h2
        have h2' := (upd_none h2).2
        refine q _ b (rca.next b upd_same ((hws.tups tp).app (.cons (.join ?_) (.cons (.r (hy.tups tp)) (.cons (.r (hx.tups tp)) .nil)))) ?_ ?_ hw)
        · rw [upd_ne n1, upd_ne n2]; exact upd_same
        · rw [upd_ne (Ne.symm ne), upd_ne (ne_of_none e2 h2'), upd_ne (ne_of_none e2 h1)]; exact e2
        · rw [upd_ne (Ne.symm n13), upd_ne (ne_of_none e3 h2'), upd_ne (ne_of_none e3 h1)]; exact e3
      have ex1 : ∀ p1, H p1 = none → upd H p1 (.tup [V.str "join", V.str op.word]) a1 = some (.lst ws) := fun p1 h1 => (upd_ne (ne_of_none e1 h1)).trans e1
      have ex2 : ∀ p1 p2, H p1 = none → upd H p1 (.tup [V.str "join", V.str op.word]) p2 = none → upd (upd H p1 (.tup [V.str "join", V.str op.word])) p2 (.lst [V.ref p1, V.ref y, V.ref x]) a1 = some (.lst ws) := fun p1 p2 h1 h2 => (upd_ne (ne_of_none (ex1 p1 h1) h2)).trans (ex1 p1 h1)
      have ez : ∀ p1, H p1 = none → upd H p1 (.tup [V.str "join", V.str op.word]) b = some (.tup [V.str op.word, V.ref x, V.ref y]) := fun p1 h1 => (upd_ne (ne_of_none eb h1)).trans eb
      cases op with
      | plus =>
        walk_at "vs"
        intro p1 h1
        have ez1 := ez p1 h1
        walk_at "vs"
        intro p2 h2
        have ex := ex2 p1 p2 h1 h2
        have hz1 := hz p1
        walk_at "vs"
        exact fin p1 p2 h1 h2
      | minus =>
        walk_at "vs"
        intro p1 h1
        have ez1 := ez p1 h1
        walk_at "vs"
        intro p2 h2
        have ex := ex2 p1 p2 h1 h2
        have hz1 := hz p1
        walk_at "vs"
        exact fin p1 p2 h1 h2
      | times =>
        walk_at "vs"
        intro p1 h1
        have ez1 := ez p1 h1
        walk_at "vs"
        intro p2 h2
        have ex := ex2 p1 p2 h1 h2
        have hz1 := hz p1
        walk_at "vs"
        exact fin p1 p2 h1 h2
      | most =>
        walk_at "vs"
        intro p1 h1
        have ez1 := ez p1 h1
        walk_at "vs"
        intro p2 h2
        have ex := ex2 p1 p2 h1 h2
        have hz1 := hz p1
        walk_at "vs"
        exact fin p1 p2 h1 h2
    | @pick _ x y z ra rb rc eb hx hy hz0 =>
      have hi : c = ⟨t ++ [.branch rb rc, .r ra], fo, d⟩ := hi
      subst hi
      have hz : ∀ p : Addr, ws.length + [V.ref p, V.ref x].length ≤ sizeLine := fun p => by rw [sizeLine_eq]; show ws.length + 2 ≤ _; omega
      walk_at "vs"
      intro p1 h1
      have ez1 : upd H p1 (.tup [V.str "branch", V.ref y, V.ref z]) b = some (.tup [V.str "pick", V.ref x, V.ref y, V.ref z]) := (upd_ne (ne_of_none eb h1)).trans eb
      walk_at "vs"
      intro p2 h2
      have ex : upd (upd H p1 (.tup [V.str "branch", V.ref y, V.ref z])) p2 (.lst [V.ref p1, V.ref x]) a1 = some (.lst ws) := (upd_ne (ne_of_none e1 (upd_none h2).2)).trans ((upd_ne (ne_of_none e1 h1)).trans e1)
      have hz1 := hz p1
      walk_at "vs"
      have b : But [a1, a2, a3] H (upd (upd (upd H p1 (.tup [V.str "branch", V.ref y, V.ref z])) p2 (.lst [V.ref p1, V.ref x])) a1 (.lst (ws ++ [V.ref p1, V.ref x]))) := (But.new _ h1).trans ((But.new _ h2).trans (But.set _ (by simp)))
      have tp := rca.lists b
      have n1 : p1 ≠ a1 := fun z => by rw [z, e1] at h1; cases h1
      have n2 : p1 ≠ p2 := fun z => by rw [← z, upd_same] at h2; cases h2
      have h2' := (upd_none h2).2
      refine q _ b (rca.next b upd_same ((hws.tups tp).app (.cons (.branch (by rw [upd_ne n1, upd_ne n2]; exact upd_same) (hy.tups tp) (hz0.tups tp)) (.cons (.r (hx.tups tp)) .nil))) ?_ ?_ hw)
      · rw [upd_ne (Ne.symm ne), upd_ne (ne_of_none e2 h2'), upd_ne (ne_of_none e2 h1)]; exact e2
      · rw [upd_ne (Ne.symm n13), upd_ne (ne_of_none e3 h2'), upd_ne (ne_of_none e3 h1)]; exact e3
    | @cho _ x y ra ns eb hx hy =>
      have hi : c = ⟨t ++ [.among ns, .r ra], fo, d⟩ := hi
      subst hi
      have hz : ∀ p : Addr, ws.length + [V.ref p, V.ref x].length ≤ sizeLine := fun p => by rw [sizeLine_eq]; show ws.length + 2 ≤ _; omega
      walk_at "vs"
      intro p1 h1
      have ez1 : upd H p1 (.tup [V.str "among", V.ref y]) b = some (.tup [V.str "choose", V.ref x, V.ref y]) := (upd_ne (ne_of_none eb h1)).trans eb
      walk_at "vs"
      intro p2 h2
      have ex : upd (upd H p1 (.tup [V.str "among", V.ref y])) p2 (.lst [V.ref p1, V.ref x]) a1 = some (.lst ws) := (upd_ne (ne_of_none e1 (upd_none h2).2)).trans ((upd_ne (ne_of_none e1 h1)).trans e1)
      have hz1 := hz p1
      walk_at "vs"
      have b : But [a1, a2, a3] H (upd (upd (upd H p1 (.tup [V.str "among", V.ref y])) p2 (.lst [V.ref p1, V.ref x])) a1 (.lst (ws ++ [V.ref p1, V.ref x]))) := (But.new _ h1).trans ((But.new _ h2).trans (But.set _ (by simp)))
      have tp := rca.lists b
      have n1 : p1 ≠ a1 := fun z => by rw [z, e1] at h1; cases h1
      have n2 : p1 ≠ p2 := fun z => by rw [← z, upd_same] at h2; cases h2
      have h2' := (upd_none h2).2
      refine q _ b (rca.next b upd_same ((hws.tups tp).app (.cons (.among (by rw [upd_ne n1, upd_ne n2]; exact upd_same) (tp _ _ hy)) (.cons (.r (hx.tups tp)) .nil))) ?_ ?_ hw)
      · rw [upd_ne (Ne.symm ne), upd_ne (ne_of_none e2 h2'), upd_ne (ne_of_none e2 h1)]; exact e2
      · rw [upd_ne (Ne.symm n13), upd_ne (ne_of_none e3 h2'), upd_ne (ne_of_none e3 h1)]; exact e3
  | @branch b x y ra rb eb hx hy =>
    obtain ⟨g, v, hf, hi⟩ := hi
    have hf : fo = g ++ [v] := hf
    subst hf
    subst hi
    have hl : ((g ++ [v]).map V.int)[((g ++ [v]).map V.int).length - 1]? = some (.int v) := by rw [List.map_append, List.length_append]; exact List.getElem?_concat_length
    have hd : ((g ++ [v]).map V.int).dropLast = g.map V.int := by rw [List.map_append]; exact List.dropLast_concat
    have hz : ws.length < sizeLine := by rw [sizeLine_eq]; omega
    walk_at "vs"
    rw [hd]
    have nb : b ≠ a2 := fun z => by rw [z, e2] at eb; cases eb
    have eb1 : upd H a2 (.lst (g.map V.int)) b = some (.tup [V.str "branch", V.ref x, V.ref y]) := (upd_ne nb).trans eb
    have e11 : upd H a2 (.lst (g.map V.int)) a1 = some (.lst ws) := (upd_ne ne).trans e1
    have fin : ∀ (z : Addr) (rz : R), IsR H z rz → rz = (if v > 0 then ra else rb) → Q .non (upd (upd H a2 (.lst (g.map V.int))) a1 (.lst (ws ++ [V.ref z]))) := fun z rz hz1 hz2 => by
      subst hz2
      have b : But [a1, a2, a3] H (upd (upd H a2 (.lst (g.map V.int))) a1 (.lst (ws ++ [V.ref z]))) := (But.set _ (by simp)).trans (But.set _ (by simp))
      have tp := rca.lists b
      exact q _ b (rca.next b upd_same ((hws.tups tp).app (.cons (.r (hz1.tups tp)) .nil)) ((upd_ne (Ne.symm ne)).trans upd_same) ((upd_ne (Ne.symm n13)).trans ((upd_ne (Ne.symm n23)).trans e3)) hw)
    by_cases hv : 0 < v
    · refine itD_t hv ?_
      walk_at "vs"
      exact fin x ra hx (if_pos hv).symm
    · refine itD_f hv ?_
      walk_at "vs"
      exact fin y rb hy (if_neg hv).symm
  | @among b x ns eb hx =>
    obtain ⟨g, v, y, hf, hy, hi⟩ := hi
    have hf : fo = g ++ [v] := hf
    subst hf
    subst hi
    have hl : ((g ++ [v]).map V.int)[((g ++ [v]).map V.int).length - 1]? = some (.int v) := by rw [List.map_append, List.length_append]; exact List.getElem?_concat_length
    have hd : ((g ++ [v]).map V.int).dropLast = g.map V.int := by rw [List.map_append]; exact List.dropLast_concat
    have hz : ws.length < sizeLine := by rw [sizeLine_eq]; omega
    have hln : (ns.map V.str).length = ns.length := List.length_map _
    have hpos : 0 < ((ns.map V.str).length : Int) := by
      rw [hln]
      cases ns with
      | nil => simp [pickN] at hy
      | cons n ns => simp only [List.length_cons]; omega
    have hat : atI (ns.map V.str) (v % ((ns.map V.str).length : Int)) = some (.str y) := by
      rw [hln] at hpos ⊢
      have z0 := Int.emod_nonneg v (show (ns.length : Int) ≠ 0 by omega)
      obtain ⟨k, hk⟩ := Int.eq_ofNat_of_zero_le z0
      unfold pickN at hy
      rw [hk] at hy ⊢
      exact atI_nat (by rw [List.getElem?_map, show ns[k]? = some y from hy]; rfl)
    have nx : x ≠ a2 := fun z => by rw [z, e2] at hx; cases hx
    have ex1 : upd H a2 (.lst (((g ++ [v]).map V.int).dropLast)) x = some (.tup (ns.map V.str)) := (upd_ne nx).trans hx
    have e11 : upd H a2 (.lst (((g ++ [v]).map V.int).dropLast)) a1 = some (.lst ws) := (upd_ne ne).trans e1
    walk_at "vs"
    intro p1 h1
    have e12 : upd (upd H a2 (.lst (((g ++ [v]).map V.int).dropLast))) p1 (.tup [V.str "read", V.str y]) a1 = some (.lst ws) := (upd_ne (ne_of_none e11 h1)).trans e11
    walk_at "vs"
    have n1 : p1 ≠ a1 := fun z => by rw [z, e11] at h1; cases h1
    obtain ⟨n2, h1'⟩ := upd_none h1
    have b : But [a1, a2, a3] H (upd (upd (upd H a2 (.lst (((g ++ [v]).map V.int).dropLast))) p1 (.tup [V.str "read", V.str y])) a1 (.lst (ws ++ [V.ref p1]))) := (But.set _ (by simp)).trans ((But.new _ h1).trans (But.set _ (by simp)))
    have tp := rca.lists b
    refine q _ b (rca.next b upd_same ((hws.tups tp).app (.cons (.r (.rd ((upd_ne n1).trans upd_same))) .nil)) ?_ ?_ hw)
    · rw [upd_ne (Ne.symm ne), upd_ne (Ne.symm n2), upd_same, hd]
    · rw [upd_ne (Ne.symm n13), upd_ne (ne_of_none e3 h1'), upd_ne (Ne.symm n23)]; exact e3
  | @join b op eb =>
    obtain ⟨g, u, v, hf, hm, hi⟩ := hi
    have hf : fo = g ++ [u, v] := hf
    subst hf
    subst hi
    have hl : ((g ++ [u, v]).map V.int)[((g ++ [u, v]).map V.int).length - 1]? = some (.int v) := by simp
    have hd : ((g ++ [u, v]).map V.int).dropLast = (g ++ [u]).map V.int := by simp
    have hl2 : ((g ++ [u]).map V.int)[((g ++ [u]).map V.int).length - 1]? = some (.int u) := by simp
    have hd2 : ((g ++ [u]).map V.int).dropLast = g.map V.int := by simp
    have hz : (g.map V.int).length < sizeLine := by
      rw [List.length_map, sizeLine_eq]
      have : (g ++ [u, v]).length = g.length + 2 := by rw [List.length_append]; rfl
      omega
    have nb : b ≠ a2 := fun z => by rw [z, e2] at eb; cases eb
    have na2 : a ≠ a2 := fun z => rca.ins (by simp [z])
    have hl3 : (((g ++ [u, v]).map V.int).dropLast)[(((g ++ [u, v]).map V.int).dropLast).length - 1]? = some (.int u) := by rw [hd]; exact hl2
    have hd3 : (((g ++ [u, v]).map V.int).dropLast).dropLast = g.map V.int := by rw [hd]; exact hd2
    have hz3 : ((((g ++ [u, v]).map V.int).dropLast).dropLast).length < sizeLine := by rw [hd3]; exact hz
    walk_at "vs"
    have b : But [a1, a2, a3] H (upd H a2 (.lst (g.map V.int ++ [V.int (op.ap u v)]))) := But.set _ (by simp)
    have q1 := q _ b (rca.next b ((upd_ne ne).trans e1) (hws.tups (rca.lists b)) (by rw [upd_same, List.map_append]; rfl) ((upd_ne (Ne.symm n23)).trans e3) hw)
    have eq : upd (upd (upd H a2 (.lst (((g ++ [u, v]).map V.int).dropLast))) a2 (.lst ((((g ++ [u, v]).map V.int).dropLast).dropLast))) a2 (.lst ((((g ++ [u, v]).map V.int).dropLast).dropLast ++ [V.int (op.ap u v)])) = upd H a2 (.lst (g.map V.int ++ [V.int (op.ap u v)])) := by rw [upd_upd, upd_upd, hd3]
    show Q .non (upd (upd (upd H a2 (.lst (((g ++ [u, v]).map V.int).dropLast))) a2 (.lst ((((g ++ [u, v]).map V.int).dropLast).dropLast))) a2 (.lst ((((g ++ [u, v]).map V.int).dropLast).dropLast ++ [V.int (op.ap u v)])))
    rw [eq]
    exact q1
end

section
local macro_rules | `(tactic| walk_at "side") => `(tactic| first | exact lk_todo _ _ _ | exact lk_found _ _ _ | exact lk_reads _ _ _ | exact lk_go _ _ _ | exact lk_lack _ _ _ | exact Nat.le_of_ble_eq_true rfl)
variable {P : Program} {w : World} {K : PySem.W.Frag} {mg : Str → Option Value} {base : Heap} {C : Addr}
noncomputable abbrev s_lacking : Stmt := mtop 11 1
theorem sc_lacking : FnScope ["self", "known", "step"] ["self", "known"] (defScope s_lacking) := ⟨rfl, rfl, rfl, by decide +kernel, rfl, by decide +kernel, by decide +kernel⟩
theorem vo_lacking_self : VarOk (defScope s_lacking) "self" := by decide +kernel
theorem lo_lacking_step : Loc (defScope s_lacking) "step" := by decide +kernel
theorem vo_lacking_step : VarOk (defScope s_lacking) "step" := by decide +kernel
theorem vo_lacking_known : VarOk (defScope s_lacking) "known" := by decide +kernel
theorem ok_lacking {f g : Addr} {fd gd : FuncData} (T_lacking : MthT K C "lacking" "Reckoning.lacking" s_lacking ["self", "known"] f fd) (T_go_on : MthT K C "go_on" "Reckoning.go_on" s_go_on ["self", "step"] g gd) (G_go_on : FnOk P w K mg base CX0 2 g gd ["self", "step"] (spGo C))
    (T : Blt mg) (rc : RkC K C) : FnOk P w K mg base CX0 3 f fd ["self", "known"] (spLack C) := by
  refine T_lacking.F.okQ sc_lacking (fun vs H Q E h => ?_) (fun cdv A outer s H vs Q E hr h => ?_)
  · obtain ⟨a, dx, a1, a2, a3, d, kn, n, c, c', rfl, _⟩ := h
    rfl
  obtain ⟨a, dx, a1, a2, a3, dd, kn, n0, c0, c', rfl, rca0, ⟨kvs, ed, hkn⟩, nd3, hn0, hhalt, q⟩ := h
  have cR := rc.cl
  have nT := rc.nT
  have nF := rc.nF
  have nR := rc.nR
  have hdS : dd ∉ [a1, a2, a3] := fun z => by
    obtain ⟨ws, e1, _⟩ := rca0.e1
    have z : dd = a1 ∨ dd = a2 ∨ dd = a3 := by simpa using z
    rcases z with z | z | z
    · rw [z, e1] at ed; cases ed
    · rw [z, rca0.e2] at ed; cases ed
    · exact nd3 z
  refine ⟨_, (qss_cons (qs_while PassesOwn.never (qt_truth (qe_fld (qe_var 0 vo_lacking_self))) (qss_cons (qs_set (i := 2) sc_lacking.nd rfl lo_lacking_step (qe_bm0 PySem.F.plainAttrs_list PySem.F.slot_list_pop PySem.F.type_list_pop qmt_pop (qe_fld (qe_var 0 vo_lacking_self))))
    (qss_one (qs_if (qt_cmp qop_ne (qe_ix qix_tup (qe_var 2 vo_lacking_step) qe_int) qe_str (nomarkQ _)) (qss_one (qs_expr (qe_meth (qe_var 0 vo_lacking_self) cR T_go_on.m (G_go_on.mono (by omega)) hr T_go_on.b .nil pass0 (qa_N (qe_var 2 vo_lacking_step) qa_nil)))) (qss_one (qs_if (qt_din (hu_of hr) (qe_ix qix_tup (qe_var 2 vo_lacking_step) qe_int) (qe_var 1 vo_lacking_known)) (qss_cons (qs_dput (hu_of hr) (qe_fld (qe_var 0 vo_lacking_self)) (qe_ix qix_tup (qe_var 2 vo_lacking_step) qe_int) (qe_dget (hu_of hr) (qe_var 1 vo_lacking_known) (qe_ix qix_tup (qe_var 2 vo_lacking_step) qe_int)))
    (qss_one (qs_expr (qe_bm PySem.F.plainAttrs_list PySem.F.slot_list_append PySem.F.type_list_append qmt_append (qe_fld (qe_var 0 vo_lacking_self)) (qa_S (qe_dget (hu_of hr) (qe_var 1 vo_lacking_known) (qe_ix qix_tup (qe_var 2 vo_lacking_step) qe_int)) qa_nil))))) (qss_cons (qs_expr (qe_bm PySem.F.plainAttrs_list PySem.F.slot_list_append PySem.F.type_list_append qmt_append (qe_fld (qe_var 0 vo_lacking_self)) (qa_N (qe_var 2 vo_lacking_step) qa_nil)))
    (qss_one (qs_ret (qe_ix qix_tup (qe_var 2 vo_lacking_step) qe_int))))))))))
    (qss_one (qs_ret qe_non))), ?_⟩
  refine ⟨fun n σ H' => ∃ c t, σ = [some (.ref a), some (.ref dd), t] ∧ But [a1, a2, a3] H H' ∧ RcAt H' a C dx a1 a2 a3 c ∧ StN kn n c c',
    ⟨n0, c0, none, rfl, But.refl _ _, rca0, hn0⟩, ?_⟩
  rintro n σ H1 ⟨c, t0, rfl, b1, rca, hst⟩
  have n13 := rca.n13
  have n23 := rca.n23
  have na : a ∉ [a1, a2, a3] := rca.ins
  have na1 : a ≠ a1 := fun z => na (by simp [z])
  have na2 : a ≠ a2 := fun z => na (by simp [z])
  have na3 : a ≠ a3 := fun z => na (by simp [z])
  obtain ⟨e, ⟨ws, e1, hws⟩, e2, e3, ne, hw0⟩ := id rca
  have ed1 := b1 _ _ hdS ed
  rcases List.eq_nil_or_concat c.todo with hnil | ⟨t, st, hs⟩
  · rw [hnil] at hws
    cases hws
    have ec := hst.halt (.inl hnil)
    subst ec
    walk_at "vs"
    exact (q H1 b1 rca).1 hnil
  · rw [List.concat_eq_append] at hs
    rw [hs] at hws
    obtain ⟨us, v, rfl, hus, hv⟩ := hws.snoc
    have hlu := hus.length
    have hlt := len_wT t
    have hw1 : c.rds.length + c.found.length + 2 * wT (t ++ [st]) ≤ 10000 := by have := hw0; unfold Cf.w at this; rw [hs] at this; exact this
    rw [wT_app] at hw1
    have hl : (us ++ [v])[(us ++ [v]).length - 1]? = some v := by simp
    have hd : (us ++ [v]).dropLast = us := List.dropLast_concat
    have hne : (us ++ [v]).isEmpty = false := by simp
    have hz : us.length < sizeLine := by rw [sizeLine_eq]; omega
    refine ⟨_, rfl, a, C, dx, _, .ref a1, rfl, e, cR, nT, lk_todo _ _ _, true, .inl ⟨us ++ [v], SqL.of e1, by simp⟩, ?_⟩
    refine (if_pos (rfl : true = true)).mpr ?_
    cases hst with
    | zero =>
      rcases hhalt with h | ⟨t', x, h, hx⟩
      · rw [hs] at h; simp at h
      · rw [hs] at h
        obtain ⟨rfl, rfl⟩ := snoc_inj h
        refine ⟨fun _ _ => False, fun _ _ z => z.elim, ?_⟩
        cases hv with
        | @r p _ hr' =>
        cases hr' with
        | rd ep =>
        have np : p ≠ a1 := fun z => by rw [z, e1] at ep; cases ep
        have nda : dd ≠ a1 := fun z => hdS (by simp [z])
        have g1 : DGet (upd H1 a1 (.lst (us ++ [V.ref p]).dropLast)) dd (.str x) none := by
          have := DGet.k (H := upd H1 a1 (.lst (us ++ [V.ref p]).dropLast)) (k := .inr x) ((upd_ne nda).trans ed1)
          rw [hkn, hx] at this
          exact this
        have hzd : ((us ++ [V.ref p]).dropLast).length < sizeLine := by rw [hd]; exact hz
        walk_at "vs"
        have hq := (q H1 b1 rca).2 _ x hs
        have eq : upd (upd H1 a1 (.lst (us ++ [V.ref p]).dropLast)) a1 (.lst ((us ++ [V.ref p]).dropLast ++ [V.ref p])) = H1 := by rw [upd_upd, hd, upd_id e1]
        show Q (.str x) (upd (upd H1 a1 (.lst (us ++ [V.ref p]).dropLast)) a1 (.lst ((us ++ [V.ref p]).dropLast ++ [V.ref p])))
        rw [eq]
        exact hq
    | @succ n _ c1 _ h1 ht =>
      have hi := h1.inv _ _ hs
      refine ⟨fun σ' H' => Wr (∃ c t, σ' = [some (.ref a), some (.ref dd), t] ∧ But [a1, a2, a3] H H' ∧ RcAt H' a C dx a1 a2 a3 c ∧ StN kn n c c'), ?_, ?_⟩
      · rintro σ' H' ⟨h⟩
        exact ⟨n, by omega, h⟩
      by_cases hrd : ∃ x, st = .r (.rd x)
      · obtain ⟨x, rfl⟩ := hrd
        obtain ⟨val, hx, rfl⟩ := hi
        cases hv with
        | @r p _ hr' =>
        cases hr' with
        | rd ep =>
        have np : p ≠ a1 := fun z => by rw [z, e1] at ep; cases ep
        have np3 : p ≠ a3 := fun z => by rw [z, e3] at ep; cases ep
        have nda : dd ≠ a1 := fun z => hdS (by simp [z])
        have nda3 : dd ≠ a3 := fun z => hdS (by simp [z])
        have ne2 : a2 ≠ a1 := Ne.symm ne
        have ne31 : a3 ≠ a1 := Ne.symm n13
        have ne32 : a3 ≠ a2 := Ne.symm n23
        have hv0 : valV kvs (.inr x) = some (.int val) := by rw [hkn, hx]; rfl
        have ed2 : upd H1 a1 (.lst (us ++ [V.ref p]).dropLast) dd = some (.dK kvs) := (upd_ne nda).trans ed1
        have e32 : upd H1 a1 (.lst (us ++ [V.ref p]).dropLast) a3 = some (.dK (rdK c.rds)) := (upd_ne ne31).trans e3
        have g1 : DGet (upd H1 a1 (.lst (us ++ [V.ref p]).dropLast)) dd (.str x) (some (.int val)) := by
          have := DGet.k (k := .inr x) ed2
          rw [hv0] at this
          exact this
        have hlr : (rdK c.rds).length < sizeLine := by rw [show (rdK c.rds).length = c.rds.length from List.length_map _, sizeLine_eq]; omega
        have pt : DPut (upd H1 a1 (.lst (us ++ [V.ref p]).dropLast)) a3 (.str x) (.int val) (upd (upd H1 a1 (.lst (us ++ [V.ref p]).dropLast)) a3 (.dK (rdK (putR c.rds x val)))) := by
          have := DPut.k (k := .inr x) (v := .int val) e32 hlr
          rw [rdK_put] at this
          exact this
        have ed3 : upd (upd H1 a1 (.lst (us ++ [V.ref p]).dropLast)) a3 (.dK (rdK (putR c.rds x val))) dd = some (.dK kvs) := (upd_ne nda3).trans ed2
        have g2 : DGet (upd (upd H1 a1 (.lst (us ++ [V.ref p]).dropLast)) a3 (.dK (rdK (putR c.rds x val)))) dd (.str x) (some (.int val)) := by
          have := DGet.k (k := .inr x) ed3
          rw [hv0] at this
          exact this
        have hzf : (c.found.map V.int).length < sizeLine := by rw [List.length_map, sizeLine_eq]; omega
        walk_at "vs"
        have b2 : But [a1, a2, a3] H1 (upd (upd (upd H1 a1 (.lst (us ++ [V.ref p]).dropLast)) a3 (.dK (rdK (putR c.rds x val)))) a2 (.lst (c.found.map V.int ++ [V.int val]))) := (But.set _ (by simp)).trans ((But.set _ (by simp)).trans (But.set _ (by simp)))
        have tp := rca.lists b2
        refine ⟨⟨⟨t, c.found ++ [val], putR c.rds x val⟩, _, rfl, b1.trans b2, rca.next b2 (ws := us) ?_ (hus.tups tp) ?_ ?_ (Nat.le_trans h1.w hw0), ht⟩⟩
        · rw [upd_ne ne, upd_ne n13, upd_same, hd]
        · rw [upd_same, List.map_append]; rfl
        · rw [upd_ne ne32, upd_same]
      · have hno : ∀ x, st ≠ .r (.rd x) := fun x z => hrd ⟨x, z⟩
        obtain ⟨p, k, xs, rfl, ep, hk⟩ := hv.hd hno
        have np : p ≠ a1 := fun z => by rw [z, e1] at ep; cases ep
        have at0 : atI (V.str k :: xs) 0 = some (.str k) := atI_nat (j := 0) rfl
        walk_at "vs"
        refine itN_t (fun z => hk (V.str.inj z)) ?_
        have b2 : But [a1, a2, a3] H1 (upd H1 a1 (.lst (us ++ [V.ref p]).dropLast)) := But.set _ (by simp)
        have tp := rca.lists b2
        have rc2 : RcAt (upd H1 a1 (.lst (us ++ [V.ref p]).dropLast)) a C dx a1 a2 a3 ⟨t, c.found, c.rds⟩ := rca.next b2 (ws := us) (by rw [upd_same, hd]) (hus.tups tp) ((upd_ne (Ne.symm ne)).trans e2) ((upd_ne (Ne.symm n13)).trans e3) (by show c.rds.length + c.found.length + 2 * wT t ≤ 10000; omega)
        have h1' : St1 kn ⟨t ++ [st], c.found, c.rds⟩ c1 := by rw [← hs]; exact h1
        have hv2 := hv.tups tp
        have hwc := Nat.le_trans h1.w hw0
        walk_at "vs"
        intro H3 b3 rc3
        exact ⟨⟨c1, _, rfl, b1.trans (b2.trans b3), rc3, ht⟩⟩
end

section
local macro_rules | `(tactic| walk_at "side") => `(tactic| first | exact lk_todo _ _ _ | exact lk_found _ _ _ | exact lk_reads _ _ _ | exact lk_go _ _ _ | exact lk_lack _ _ _ | exact Nat.le_of_ble_eq_true rfl)
variable {P : Program} {w : World} {K : PySem.W.Frag} {mg : Str → Option Value} {base : Heap} {C CE : Addr}
noncomputable abbrev s_behind : Stmt := top 13
theorem sc_behind : FnScope ["r", "reads", "reckoning", "known", "read", "lacking"] ["r", "reads"] (defScope s_behind) := ⟨rfl, rfl, rfl, by decide +kernel, rfl, by decide +kernel, by decide +kernel⟩
theorem lo_behind_reckoning : Loc (defScope s_behind) "reckoning" := by decide +kernel
theorem gl_behind_Reckoning : (defScope s_behind).names.lookup ("Reckoning" : Str) = some NameKind.globalImplicit := by decide +kernel
theorem vo_behind_r : VarOk (defScope s_behind) "r" := by decide +kernel
theorem db_behind_Reckoning : (("Reckoning" : Str) == ("__debug__" : Str)) = false := by decide +kernel
theorem lo_behind_known : Loc (defScope s_behind) "known" := by decide +kernel
theorem vo_behind_reads : VarOk (defScope s_behind) "reads" := by decide +kernel
theorem lo_behind_read : Loc (defScope s_behind) "read" := by decide +kernel
theorem vo_behind_reckoning : VarOk (defScope s_behind) "reckoning" := by decide +kernel
theorem vo_behind_known : VarOk (defScope s_behind) "known" := by decide +kernel
theorem vo_behind_read : VarOk (defScope s_behind) "read" := by decide +kernel
theorem gl_behind_NoRead : (defScope s_behind).names.lookup ("NoRead" : Str) = some NameKind.globalImplicit := by decide +kernel
theorem db_behind_NoRead : (("NoRead" : Str) == ("__debug__" : Str)) = false := by decide +kernel
theorem lo_behind_lacking : Loc (defScope s_behind) "lacking" := by decide +kernel
theorem vo_behind_lacking : VarOk (defScope s_behind) "lacking" := by decide +kernel
theorem ok_behind {f g0 g1 : Addr} {fd gd0 gd1 : FuncData} (T_behind : FnT K mg "behind" s_behind ["r", "reads"] f fd) (T__init__ : MthT K C "__init__" "Reckoning.__init__" s__init__ ["self", "r"] g0 gd0) (G__init__ : FnOk P w K mg base CX0 1 g0 gd0 ["self", "r"] (spRkInit C))
    (T_lacking : MthT K C "lacking" "Reckoning.lacking" s_lacking ["self", "known"] g1 gd1) (G_lacking : FnOk P w K mg base CX0 3 g1 gd1 ["self", "known"] (spLack C))
    (M_Reckoning : Mk K C g0) (mgReckoning : mg "Reckoning" = some (.ref C)) (T : Blt mg) (rc : RkC K C) (cNoRead : ExC K CE) (mNoRead : mg "NoRead" = some (.ref CE)) : FnOk P w K mg base (CXx P w) 4 f fd ["r", "reads"] (spBehind CE) := by
  refine T_behind.F.okX sc_behind (fun vs H Q E h => ?_) (fun cdv A outer s H vs Q E hr h => ?_)
  · obtain ⟨b, l, r, as, ps, rfl, _⟩ := h
    rfl
  obtain ⟨b, l, r, as, ps, rfl, hR, hTm, hwr, el, hRs, hn, hsm, q⟩ := h
  have cR := rc.cl
  have nT := rc.nT
  have nF := rc.nF
  have nR := rc.nR
  refine ⟨_, (qss_cons (qs_set (i := 2) sc_behind.nd rfl lo_behind_reckoning (qe_make M_Reckoning (G__init__.mono (by omega)) hr gl_behind_Reckoning mgReckoning T__init__.b .nil pass0 (qa_N (qe_var 0 vo_behind_r) qa_nil) db_behind_Reckoning))
    (qss_cons (qs_set (i := 3) sc_behind.nd rfl lo_behind_known qe_dnewK)
    (qss_cons (qs_for PassesOwn.leaving rfl (qi_list (qe_var 1 vo_behind_reads)) (qg_name (i := 4) sc_behind.nd rfl lo_behind_read) (qss_cons (qs_if (qt_cmp qop_ne (qe_meth (qe_var 2 vo_behind_reckoning) cR T_lacking.m (G_lacking.mono (by omega)) hr T_lacking.b .nil pass0 (qa_N (qe_var 3 vo_behind_known) qa_nil)) (qe_ix qix_tup (qe_var 4 vo_behind_read) qe_int) (nomarkQ _)) (qss_one (qs_raise cNoRead gl_behind_NoRead mNoRead (qa_C qe_str qa_nil) db_behind_NoRead)) qss_nil)
    (qss_one (qs_dput (hu_of hr) (qe_var 3 vo_behind_known) (qe_ix qix_tup (qe_var 4 vo_behind_read) qe_int) (qe_ix qix_tup (qe_var 4 vo_behind_read) qe_int)))))
    (qss_cons (qs_set (i := 5) sc_behind.nd rfl lo_behind_lacking (qe_meth (qe_var 2 vo_behind_reckoning) cR T_lacking.m (G_lacking.mono (by omega)) hr T_lacking.b .nil pass0 (qa_N (qe_var 3 vo_behind_known) qa_nil)))
    (qss_cons (qs_if (qt_cmp qop_isN (qe_var 5 vo_behind_lacking) qe_non (nomarkQ _)) (qss_one (qs_ret (qe_tup (qa_C qe_str (qa_S (qe_ix qix_list (qe_fld (qe_var 2 vo_behind_reckoning)) qe_int) qa_nil))))) qss_nil)
    (qss_one (qs_ret (qe_tup (qa_C qe_str (qa_N (qe_var 5 vo_behind_lacking) qa_nil)))))))))), ?_⟩
  walk_at "vs"
  intro a dx ha hdx hne
  have haH : (upd H dx (.own a)) a = none := (upd_ne (Ne.symm hne)).trans ha
  have S1 := (same_new (.own a) hdx).trans (same_new (.ins C dx []) haH)
  refine ⟨a, dx, b, r, rfl, upd_same, hR.same S1, hwr, fun a1 a2 a3 H2 b2 h1 h2 h3 rc2 => ⟨rfl, ?_⟩⟩
  have h1 := same_none S1 h1
  have h2 := same_none S1 h2
  have h3 := same_none S1 h3
  have S2 : Same H H2 := but_same S1 (fun p hp => by have : p = a := by simpa using hp
                                                     rw [this]; exact ha) b2
  clear b2 S1 haH
  walk_at "vs"
  intro dd hdd
  have S3 := S2.trans (same_new (.dK []) hdd)
  have rc3 := rc2.same (same_new (.dK []) hdd)
  have e3 : upd H2 dd (.dK []) dd = some (.dK []) := upd_same
  have nd : dd ∉ [a, a1, a2, a3] := fun z => by
    obtain ⟨ws, w1, _⟩ := rc2.e1
    have z : dd = a ∨ dd = a1 ∨ dd = a2 ∨ dd = a3 := by simpa using z
    rcases z with z | z | z | z
    · rw [z, rc2.e] at hdd; cases hdd
    · rw [z, w1] at hdd; cases hdd
    · rw [z, rc2.e2] at hdd; cases hdd
    · rw [z, rc2.e3] at hdd; cases hdd
  have nd3 : dd ≠ a3 := fun z => nd (by simp [z])
  have ndS : dd ∉ [a1, a2, a3] := fun z => nd (by simp at z ⊢; exact .inr z)
  have hdd0 := same_none S2 hdd
  generalize upd H2 dd (.dK []) = H3 at *
  have el3 := S3 _ _ el
  have fr : ∀ p ∈ [a1, a2, a3], H p = none := fun p hp => by
    have z : p = a1 ∨ p = a2 ∨ p = a3 := by simpa using hp
    rcases z with z | z | z
    · rw [z]; exact h1
    · rw [z]; exact h2
    · rw [z]; exact h3
  have hlm : (as.map V.ref).length = ps.length := by rw [List.length_map]; exact hRs.length
  walk_at "vs"
  refine for_list (xs := as.map V.ref) (fun i σ H' => (∃ t u, σ = [some (.ref b), some (.ref l), some (.ref a), some (.ref dd), t, u]) ∧ Same H H' ∧ ∃ kn c kvs, RcAt H' a C dx a1 a2 a3 c ∧ H' dd = some (.dK kvs) ∧ (∀ y, valV kvs (.inr y) = (kn y).map V.int) ∧ kvs.length ≤ i ∧ kn.Sm ∧ Reach kn r c ∧ bh r kn (ps.drop i) = bh r kn0 ps) ?_ ?_ ?_ ?_
  · exact ⟨⟨none, none, rfl⟩, S3, kn0, _, [], rc3, e3, fun y => rfl, Nat.le_refl _, kn0_sm, ⟨0, .zero⟩, rfl⟩
  · intro i σ H' _ hP
    exact SqL.of (hP.2.1 _ _ el)
  · intro i x σ H' hx hP
    obtain ⟨⟨t, u, rfl⟩, hs, kn, c, kvs, rca, ed, hkn, hlk, hSm, hre, hbh⟩ := hP
    have hi : i < (as.map V.ref).length := (List.getElem?_eq_some_iff.mp hx).1
    obtain ⟨pa, hpa, rfl⟩ := ref_at hx
    obtain ⟨pb, hpb, epb⟩ := hRs.get i pa hpa
    have hdrop : ps.drop i = pb :: ps.drop (i + 1) := by
      obtain ⟨hlt, he⟩ := List.getElem?_eq_some_iff.mp hpb
      rw [List.drop_eq_getElem_cons hlt, he]
    rw [hdrop] at hbh
    obtain ⟨n, c', hst, hh, hre', htold⟩ := hre.goes hSm hTm
    have at0 : atI (rdV pb) 0 = some (.str pb.1) := atI_nat (j := 0) rfl
    have at1 : atI (rdV pb) 1 = some (.int pb.2) := atI_nat (j := 1) rfl
    have ea := rca.e
    have hknA : KnAt H' dd kn := ⟨kvs, ed, hkn⟩
    walk_at "vs"
    intro H4 b4 rc4
    have S4 := but_same hs fr b4
    have ed4 := b4 _ _ ndS ed
    have epb4 := S4 _ _ epb
    unfold Told at htold
    rw [bh_cons] at hbh
    constructor
    · intro hnil
      cases hev : ev kn r with
      | inl y =>
        rw [hev] at htold
        obtain ⟨tt, htt⟩ := htold
        rw [htt] at hnil; simp at hnil
      | inr vv =>
        rw [hev] at hbh
        rw [← hbh] at q
        walk_at "vs"
        exact q H4 S4
    · intro tt y hy
      cases hev : ev kn r with
      | inr vv =>
        rw [hev] at htold
        rw [htold.1] at hy; simp at hy
      | inl y' =>
        rw [hev] at htold hbh
        obtain ⟨tt', htt⟩ := htold
        rw [htt] at hy
        obtain ⟨_, hyy⟩ := snoc_inj hy
        cases hyy
        walk_at "vs"
        by_cases hxy : y = pb.1
        · refine itN_f (by rw [hxy]) ?_
          have hbh : bh r (kn.put pb.1 pb.2) (ps.drop (i + 1)) = bh r kn0 ps := by
            have := hbh
            simp only [if_pos hxy] at this
            exact this
          have hkv : kvs.length < sizeLine := by rw [sizeLine_eq]; omega
          have pt : DPut H4 dd (.str pb.1) (.int pb.2) (upd H4 dd (.dK (putK kvs (.inr pb.1) (.int pb.2)))) := DPut.k (k := .inr pb.1) ed4 hkv
          walk_at "vs"
          obtain ⟨kvs', hk1, hk2⟩ := KnAt.put (H := upd H4 dd (.dK (putK kvs (.inr pb.1) (.int pb.2)))) (d := dd) hkn upd_same
          have hlen := length_putK kvs (Sum.inr pb.1 : Key) (V.int pb.2)
          refine ⟨⟨_, _, rfl⟩, same_updN _ hdd0 S4, kn.put pb.1 pb.2, c', _, rc4.off nd (fun xs z => by rw [ed4] at z; cases z), upd_same, ?_, by omega, hSm.put (hsm pb (List.mem_of_getElem? hpb)), hre'.le (Kn.le_put (by rw [← hxy]; exact ev_none hev)), hbh⟩
          rw [upd_same] at hk1
          cases hk1
          exact hk2
        · refine itN_t (fun z => hxy (V.str.inj z)) ?_
          have hbh : none = bh r kn0 ps := by
            have := hbh
            simp only [if_neg hxy] at this
            exact this
          rw [← hbh] at q
          walk_at "vs"
          exact q H4 S4
  · intro σ H' hP
    obtain ⟨⟨t, u, rfl⟩, hs, kn, c, kvs, rca, ed, hkn, hlk, hSm, hre, hbh⟩ := hP
    rw [hlm, List.drop_length] at hbh
    obtain ⟨n, c', hst, hh, hre', htold⟩ := hre.goes hSm hTm
    have ea := rca.e
    have hknA : KnAt H' dd kn := ⟨kvs, ed, hkn⟩
    walk_at "vs"
    intro H4 b4 rc4
    have S4 := but_same hs fr b4
    unfold Told at htold
    rw [bh_nil] at hbh
    rw [← hbh] at q
    constructor
    · intro hnil
      cases hev : ev kn r with
      | inl y =>
        rw [hev] at htold
        obtain ⟨tt, htt⟩ := htold
        rw [htt] at hnil; simp at hnil
      | inr vv =>
        rw [hev] at htold q
        have e4 := rc4.e
        have ef := rc4.e2
        rw [htold.2] at ef
        have at0 : atI ([vv].map V.int) 0 = some (.int vv) := atI_nat (j := 0) rfl
        walk_at "vs"
        intro p5 hp5
        exact q p5 _ (S4.trans (same_new _ hp5)) upd_same
    · intro tt y hy
      cases hev : ev kn r with
      | inr vv =>
        rw [hev] at htold
        rw [htold.1] at hy; simp at hy
      | inl y' =>
        rw [hev] at htold q
        obtain ⟨tt', htt⟩ := htold
        rw [htt] at hy
        obtain ⟨_, hyy⟩ := snoc_inj hy
        cases hyy
        walk_at "vs"
        intro p5 hp5
        exact q p5 _ (S4.trans (same_new _ hp5)) upd_same
end

section
variable {P : Program} {w : World} {K : PySem.W.Frag} {mg : Str → Option Value} {base : Heap}
noncomputable abbrev s_law_pool : Stmt := top 15
theorem sc_law_pool : FnScope ["script", "k", "cell"] ["script", "k"] (defScope s_law_pool) := ⟨rfl, rfl, rfl, by decide +kernel, rfl, by decide +kernel, by decide +kernel⟩
theorem lo_law_pool_cell : Loc (defScope s_law_pool) "cell" := by decide +kernel
theorem vo_law_pool_k : VarOk (defScope s_law_pool) "k" := by decide +kernel
theorem gl_law_pool_len : (defScope s_law_pool).names.lookup ("len" : Str) = some NameKind.globalImplicit := by decide +kernel
theorem vo_law_pool_script : VarOk (defScope s_law_pool) "script" := by decide +kernel
theorem nn_law_pool_len : ("len" : Str) ≠ "__name__" := by decide +kernel
theorem db_law_pool_len : (("len" : Str) == ("__debug__" : Str)) = false := by decide +kernel
theorem vo_law_pool_cell : VarOk (defScope s_law_pool) "cell" := by decide +kernel
theorem ok_law_pool {f : Addr} {fd : FuncData} (T_law_pool : FnT K mg "_law_pool" s_law_pool ["script", "k"] f fd) (T : Blt mg) : FnOk P w K mg base CX0 1 f fd ["script", "k"] (spPl K) := by
  refine T_law_pool.F.okQ sc_law_pool (fun vs H Q E h => ?_) (fun cdv A outer s H vs Q E hr h => ?_)
  · obtain ⟨a, ns, k, rfl, _⟩ := h
    rfl
  obtain ⟨a, ns, k, rfl, hS, h0, h1, q⟩ := h
  refine ⟨_, (qss_cons (qs_set (i := 2) sc_law_pool.nd rfl lo_law_pool_cell qe_int)
    (qss_cons (qs_if (qt_cmp qop_lt (qe_var 1 vo_law_pool_k) (qe_callB qc_len_seq gl_law_pool_len T.b_len bt_len (qa_N (qe_var 0 vo_law_pool_script) qa_nil) nn_law_pool_len db_law_pool_len) (nomarkQ _)) (qss_one (qs_set (i := 2) sc_law_pool.nd rfl lo_law_pool_cell (qe_ix qix_list (qe_var 0 vo_law_pool_script) (qe_var 1 vo_law_pool_k)))) qss_nil)
    (qss_cons (qs_if (qt_cmp qop_ge (qe_var 2 vo_law_pool_cell) (qe_op qop_pow qe_int qe_int) (nomarkQ _)) (qss_one (qs_ret (qe_lst (qa_B (qe_op qop_sub (qe_var 2 vo_law_pool_cell) (qe_op qop_pow qe_int qe_int)) (qa_C qe_int (qa_C qe_int qa_nil)))))) qss_nil)
    (qss_one (qs_ret (qe_lst (qa_N (qe_var 2 vo_law_pool_cell) (qa_C qe_int (qa_B (qe_op qop_mul qe_int (qe_var 1 vo_law_pool_k)) qa_nil))))))))), ?_⟩
  have cp : CPow 10 18 := ⟨by decide, by decide, by decide⟩
  have m1 : CMul 11 k := .inl ⟨by decide, by decide⟩
  walk_at "vs"
  have fin : ∀ (cell : Int) (p : Addr), H p = none → Q (.ref p) (upd H p (.lst [.int (cell - 10 ^ (18 : Int).toNat), .int 1, .int 0])) := fun cell p hp => q p _ (same_new _ hp) hp ⟨_, _, _, upd_same, by omega, by omega⟩
  have fin2 : ∀ (cell : Int) (p : Addr), H p = none → Q (.ref p) (upd H p (.lst [.int cell, .int 0, .int (11 * k)])) := fun cell p hp => q p _ (same_new _ hp) hp ⟨_, _, _, upd_same, by omega, by omega⟩
  refine ite2 (fun c1 => ?_) (fun c1 => ?_)
  · have c1' : k < ((ns.map V.int).length : Int) := by simpa using c1
    obtain ⟨v, j, hv, _⟩ := at_ok h0 c1'
    walk_at "vs"
    refine ite2 (fun c2 => ?_) (fun c2 => ?_)
    · walk_at "vs"
      exact fun p hp => fin v p hp
    · walk_at "vs"
      exact fun p hp => fin2 v p hp
  · walk_at "vs"
    exact fun p hp => fin2 0 p hp
noncomputable abbrev s_law_take : Stmt := top 16
theorem sc_law_take : FnScope ["pool", "many", "found", "step", "mark"] ["pool", "many"] (defScope s_law_take) := ⟨rfl, rfl, rfl, by decide +kernel, rfl, by decide +kernel, by decide +kernel⟩
theorem vo_law_take_pool : VarOk (defScope s_law_take) "pool" := by decide +kernel
theorem lo_law_take_found : Loc (defScope s_law_take) "found" := by decide +kernel
theorem vo_law_take_many : VarOk (defScope s_law_take) "many" := by decide +kernel
theorem vo_law_take_found : VarOk (defScope s_law_take) "found" := by decide +kernel
theorem lo_law_take_step : Loc (defScope s_law_take) "step" := by decide +kernel
theorem lo_law_take_mark : Loc (defScope s_law_take) "mark" := by decide +kernel
theorem vo_law_take_step : VarOk (defScope s_law_take) "step" := by decide +kernel
theorem vo_law_take_mark : VarOk (defScope s_law_take) "mark" := by decide +kernel
theorem ok_law_take {f : Addr} {fd : FuncData} (T_law_take : FnT K mg "_law_take" s_law_take ["pool", "many"] f fd) (T : Blt mg) : FnOk P w K mg base CX0 1 f fd ["pool", "many"] spTk := by
  refine T_law_take.F.okQ sc_law_take (fun vs H Q E h => ?_) (fun cdv A outer s H vs Q E hr h => ?_)
  · obtain ⟨p, c, many, rfl, _⟩ := h
    rfl
  obtain ⟨p, c, many, rfl, ⟨x, m, k, e, h0, h1⟩, hc, hm, hlg, q⟩ := h
  refine ⟨_, (qss_cons (qs_if (qt_cmp qop_eq (qe_ix qix_list (qe_var 0 vo_law_take_pool) qe_int) qe_int (nomarkQ _)) (qss_cons (qs_set (i := 2) sc_law_take.nd rfl lo_law_take_found (qe_op qop_mod (qe_ix qix_list (qe_var 0 vo_law_take_pool) qe_int) (qe_var 1 vo_law_take_many)))
    (qss_cons (qs_asg (qe_op qop_fdiv (qe_ix qix_list (qe_var 0 vo_law_take_pool) qe_int) (qe_var 1 vo_law_take_many)) (qg_sub (qe_var 0 vo_law_take_pool) qe_int qset_list))
    (qss_one (qs_ret (qe_var 2 vo_law_take_found))))) qss_nil)
    (qss_cons (qs_asg (qe_op qop_add (qe_ix qix_list (qe_var 0 vo_law_take_pool) qe_int) qe_int) (qg_sub (qe_var 0 vo_law_take_pool) qe_int qset_list))
    (qss_cons (qs_set (i := 3) sc_law_take.nd rfl lo_law_take_step (qe_ix qix_list (qe_var 0 vo_law_take_pool) qe_int))
    (qss_cons (qs_set (i := 4) sc_law_take.nd rfl lo_law_take_mark (qe_op qop_mul (qe_op qop_add (qe_op qop_mod (qe_ix qix_list (qe_var 0 vo_law_take_pool) qe_int) qe_int) qe_int) (qe_op qop_add (qe_op qop_mul qe_int (qe_var 3 vo_law_take_step)) qe_int)))
    (qss_cons (qs_set (i := 4) sc_law_take.nd rfl lo_law_take_mark (qe_op qop_add (qe_var 4 vo_law_take_mark) (qe_op qop_mul (qe_op qop_mul qe_int (qe_var 3 vo_law_take_step)) (qe_var 3 vo_law_take_step))))
    (qss_cons (qs_set (i := 4) sc_law_take.nd rfl lo_law_take_mark (qe_op qop_mod (qe_op qop_mul (qe_var 4 vo_law_take_mark) (qe_var 4 vo_law_take_mark)) qe_int))
    (qss_one (qs_ret (qe_op qop_mod (qe_op qop_fdiv (qe_op qop_mod (qe_op qop_mul (qe_var 4 vo_law_take_mark) (qe_op qop_add (qe_var 4 vo_law_take_mark) qe_int)) qe_int) qe_int) (qe_var 1 vo_law_take_many)))))))))), ?_⟩
  have a0 : atI (plV x m k) 0 = some (.int x) := atI_nat (j := 0) rfl
  have a1 : atI (plV x m k) 1 = some (.int m) := atI_nat (j := 1) rfl
  have a2 : atI (plV x m k) 2 = some (.int k) := atI_nat (j := 2) rfl
  have i0 : ixN (plV x m k).length 0 = some 0 := rfl
  have i2 : ixN (plV x m k).length 2 = some 2 := rfl
  walk_at "vs"
  refine ite2 (fun c1 => ?_) (fun c1 => ?_)
  · walk_at "vs"
    exact q _ _ (Int.emod_nonneg _ (by omega)) (Int.emod_lt_of_pos _ hm) (But.set _ (by simp)) ⟨x / many, m, k, upd_same, h0, by omega⟩
  · walk_at "vs"
    have e2 : upd H p (.lst ((plV x m k).set 2 (.int (k + 1)))) p = some (.lst (plV x m (k + 1))) := upd_same
    have b2 : But [p] H (upd H p (.lst ((plV x m k).set 2 (.int (k + 1))))) := But.set _ (by simp)
    have a0' : atI (plV x m (k + 1)) 0 = some (.int x) := atI_nat (j := 0) rfl
    have a2' : atI (plV x m (k + 1)) 2 = some (.int (k + 1)) := atI_nat (j := 2) rfl
    have r0 := Int.emod_nonneg x (show (9999999851 : Int) ≠ 0 by decide)
    have r1 := Int.emod_lt_of_pos x (show (0 : Int) < 9999999851 by decide)
    have m1 : CMul 5 (k + 1) := .inl ⟨by decide, by decide⟩
    have m2 : CMul (x % 9999999851 + 577) (5 * (k + 1) + 23) := .inl ⟨by omega, by omega⟩
    have m3 : CMul 2711 (k + 1) := .inl ⟨by decide, by decide⟩
    have m4 : CMul (2711 * (k + 1)) (k + 1) := .inl ⟨by omega, by omega⟩
    have p1 : 0 ≤ (x % 9999999851 + 577) * (5 * (k + 1) + 23) := Int.mul_nonneg (by omega) (by omega)
    have p2 : (x % 9999999851 + 577) * (5 * (k + 1) + 23) ≤ 10000000428 * 500028 := Int.mul_le_mul (by omega) (by omega) (by omega) (by omega)
    have p3 : 0 ≤ 2711 * (k + 1) * (k + 1) := Int.mul_nonneg (by omega) (by omega)
    have p4 : 2711 * (k + 1) * (k + 1) ≤ 271102711 * 100001 := Int.mul_le_mul (by omega) (by omega) (by omega) (by omega)
    have m5 : CMul ((x % 9999999851 + 577) * (5 * (k + 1) + 23) + 2711 * (k + 1) * (k + 1)) ((x % 9999999851 + 577) * (5 * (k + 1) + 23) + 2711 * (k + 1) * (k + 1)) := .inl ⟨by omega, by omega⟩
    have z1 := Int.emod_nonneg (((x % 9999999851 + 577) * (5 * (k + 1) + 23) + 2711 * (k + 1) * (k + 1)) * ((x % 9999999851 + 577) * (5 * (k + 1) + 23) + 2711 * (k + 1) * (k + 1))) (show (99999999871 : Int) ≠ 0 by decide)
    have z2 := Int.emod_lt_of_pos (((x % 9999999851 + 577) * (5 * (k + 1) + 23) + 2711 * (k + 1) * (k + 1)) * ((x % 9999999851 + 577) * (5 * (k + 1) + 23) + 2711 * (k + 1) * (k + 1))) (show (0 : Int) < 99999999871 by decide)
    have m6 : CMul (((x % 9999999851 + 577) * (5 * (k + 1) + 23) + 2711 * (k + 1) * (k + 1)) * ((x % 9999999851 + 577) * (5 * (k + 1) + 23) + 2711 * (k + 1) * (k + 1)) % 99999999871) (((x % 9999999851 + 577) * (5 * (k + 1) + 23) + 2711 * (k + 1) * (k + 1)) * ((x % 9999999851 + 577) * (5 * (k + 1) + 23) + 2711 * (k + 1) * (k + 1)) % 99999999871 + 13) := .inl ⟨by omega, by omega⟩
    walk_at "vs"
    exact q _ _ (Int.emod_nonneg _ (by omega)) (Int.emod_lt_of_pos _ hm) (But.set _ (by simp)) ⟨x, m, k + 1, upd_same, by omega, by omega⟩
noncomputable abbrev s_law_leaf : Stmt := top 18
theorem sc_law_leaf : FnScope ["pool", "names", "most", "some", "number"] ["pool", "names", "most"] (defScope s_law_leaf) := ⟨rfl, rfl, rfl, by decide +kernel, rfl, by decide +kernel, by decide +kernel⟩
theorem lo_law_leaf_some : Loc (defScope s_law_leaf) "some" := by decide +kernel
theorem gl_law_leaf__law_take : (defScope s_law_leaf).names.lookup ("_law_take" : Str) = some NameKind.globalImplicit := by decide +kernel
theorem vo_law_leaf_most : VarOk (defScope s_law_leaf) "most" := by decide +kernel
theorem vo_law_leaf_pool : VarOk (defScope s_law_leaf) "pool" := by decide +kernel
theorem db_law_leaf__law_take : (("_law_take" : Str) == ("__debug__" : Str)) = false := by decide +kernel
theorem lo_law_leaf_number : Loc (defScope s_law_leaf) "number" := by decide +kernel
theorem vo_law_leaf_some : VarOk (defScope s_law_leaf) "some" := by decide +kernel
theorem vo_law_leaf_names : VarOk (defScope s_law_leaf) "names" := by decide +kernel
theorem vo_law_leaf_number : VarOk (defScope s_law_leaf) "number" := by decide +kernel
theorem gl_law_leaf_len : (defScope s_law_leaf).names.lookup ("len" : Str) = some NameKind.globalImplicit := by decide +kernel
theorem nn_law_leaf_len : ("len" : Str) ≠ "__name__" := by decide +kernel
theorem db_law_leaf_len : (("len" : Str) == ("__debug__" : Str)) = false := by decide +kernel
theorem ok_law_leaf {f g : Addr} {fd gd : FuncData} (T_law_leaf : FnT K mg "_law_leaf" s_law_leaf ["pool", "names", "most"] f fd) (T_law_take : FnT K mg "_law_take" s_law_take ["pool", "many"] g gd) (G_law_take : FnOk P w K mg base CX0 1 g gd ["pool", "many"] spTk) (T : Blt mg) :
    FnOk P w K mg base CX0 2 f fd ["pool", "names", "most"] spLf := by
  refine T_law_leaf.F.okQ sc_law_leaf (fun vs H Q E h => ?_) (fun cdv A outer s H vs Q E hr h => ?_)
  · obtain ⟨p, l, c, ns, rfl, _⟩ := h
    rfl
  obtain ⟨p, l, c, ns, rfl, hp, hc, nlp, el, hn1, hn7, hg, q⟩ := h
  refine ⟨_, (qss_cons (qs_set (i := 3) sc_law_leaf.nd rfl lo_law_leaf_some (qe_lst (qa_F (qe_call (G_law_take.mono (by omega)) hr gl_law_leaf__law_take T_law_take.m T_law_take.F.kp T_law_take.b .nil pass0 (qa_N (qe_var 0 vo_law_leaf_pool) (qa_C qe_int qa_nil)) db_law_leaf__law_take) (qa_B (qe_op qop_sub (qe_call (G_law_take.mono (by omega)) hr gl_law_leaf__law_take T_law_take.m T_law_take.F.kp T_law_take.b .nil pass0 (qa_N (qe_var 0 vo_law_leaf_pool) (qa_C qe_int qa_nil)) db_law_leaf__law_take) qe_int) (qa_B (qe_op qop_sub (qe_call (G_law_take.mono (by omega)) hr gl_law_leaf__law_take T_law_take.m T_law_take.F.kp T_law_take.b .nil pass0 (qa_N (qe_var 0 vo_law_leaf_pool) (qa_B (qe_op qop_add (qe_op qop_mul qe_int (qe_var 2 vo_law_leaf_most)) qe_int) qa_nil)) db_law_leaf__law_take) (qe_var 2 vo_law_leaf_most)) qa_nil)))))
    (qss_cons (qs_set (i := 4) sc_law_leaf.nd rfl lo_law_leaf_number (qe_ix qix_list (qe_var 3 vo_law_leaf_some) (qe_call (G_law_take.mono (by omega)) hr gl_law_leaf__law_take T_law_take.m T_law_take.F.kp T_law_take.b .nil pass0 (qa_N (qe_var 0 vo_law_leaf_pool) (qa_C qe_int qa_nil)) db_law_leaf__law_take)))
    (qss_cons (qs_if (qt_w (qw_or (qt_cmp (qop_eqD hr.units) (qe_var 1 vo_law_leaf_names) (qe_lst qa_nil) (nomarkQ _)) (qw_or1 (qt_cmp qop_eq (qe_call (G_law_take.mono (by omega)) hr gl_law_leaf__law_take T_law_take.m T_law_take.F.kp T_law_take.b .nil pass0 (qa_N (qe_var 0 vo_law_leaf_pool) (qa_C qe_int qa_nil)) db_law_leaf__law_take) qe_int (nomarkQ _))))) (qss_one (qs_ret (qe_tup (qa_C qe_str (qa_N (qe_var 4 vo_law_leaf_number) qa_nil))))) qss_nil)
    (qss_one (qs_ret (qe_tup (qa_C qe_str (qa_S (qe_ix qix_list (qe_var 1 vo_law_leaf_names) (qe_call (G_law_take.mono (by omega)) hr gl_law_leaf__law_take T_law_take.m T_law_take.F.kp T_law_take.b .nil pass0 (qa_N (qe_var 0 vo_law_leaf_pool) (qa_F (qe_callB qc_len_seq gl_law_leaf_len T.b_len bt_len (qa_N (qe_var 1 vo_law_leaf_names) qa_nil) nn_law_leaf_len db_law_leaf_len) qa_nil)) db_law_leaf__law_take)) qa_nil)))))))), ?_⟩
  have mu : CMul 2 1000000 := .inl ⟨by decide, by decide⟩
  walk_at "vs"
  intro n1 H1 n10 n11 b1 pl1
  walk_at "vs"
  intro n2 H2 n20 n21 b2 pl2
  walk_at "vs"
  intro n3 H3 n30 n31 b3 pl3
  walk_at "vs"
  intro ps hps
  have B3 := b1.trans (b2.trans b3)
  have nps : ps ∉ [p] := fun z => pl3.ne hps (by simpa using z)
  have hps0 := but_none B3 hps nps
  have e4 : upd H3 ps (.lst (([n1, n2 - 4, n3 - 1000000] : List Int).map V.int)) ps = some (.lst (([n1, n2 - 4, n3 - 1000000] : List Int).map V.int)) := upd_same
  have B4 : But [p] H (upd H3 ps (.lst (([n1, n2 - 4, n3 - 1000000] : List Int).map V.int))) := B3.upd _ hps0
  have pl4 := pl3.same (same_new (.lst (([n1, n2 - 4, n3 - 1000000] : List Int).map V.int)) hps)
  dsimp only
  rw [show [V.int n1, V.int (n2 - 4), V.int (n3 - 1000000)] = ([n1, n2 - 4, n3 - 1000000] : List Int).map V.int from rfl]
  generalize upd H3 ps (.lst (([n1, n2 - 4, n3 - 1000000] : List Int).map V.int)) = H4 at *
  walk_at "vs"
  intro n4 H5 n40 n41 b5 pl5
  have e5 := b5 _ _ nps e4
  have B5 := B4.trans b5
  have hin : ∃ v, atI (([n1, n2 - 4, n3 - 1000000] : List Int).map V.int) n4 = some (.int v) ∧ -1000000 ≤ v ∧ v ≤ 1000000 := by
    have h : n4 = 0 ∨ n4 = 1 ∨ n4 = 2 := by omega
    rcases h with rfl | rfl | rfl
    · exact ⟨n1, rfl, by omega, by omega⟩
    · exact ⟨n2 - 4, rfl, by omega, by omega⟩
    · exact ⟨n3 - 1000000, rfl, by omega, by omega⟩
  obtain ⟨v, hv, hv0, hv1⟩ := hin
  have el5 := B5 _ _ (by simpa using nlp) el
  walk_at "vs"
  intro pe hpe
  have npe : pe ∉ [p] := fun z => pl5.ne hpe (by simpa using z)
  have hpe0 := but_none B5 hpe npe
  have B6 : But [p] H (upd H5 pe (.lst [])) := B5.upd _ hpe0
  have pl6 := pl5.same (same_new (.lst []) hpe)
  have el6 := (same_new (.lst []) hpe) _ _ el5
  have e6 : upd H5 pe (.lst []) pe = some (.lst []) := upd_same
  generalize upd H5 pe (.lst []) = H6 at *
  refine ⟨_, _, .lst (SqL.of el6) (datVs_strs _), .lst (SqL.of e6) .nil, shaped_nms hg, by decide, ?_⟩
  rw [eqv_nms hn1]
  walk_at "vs"
  intro n5 H7 n50 n51 b7 pl7
  have B7 := B6.trans b7
  have el7 := B7 _ _ (by simpa using nlp) el
  walk_at "vs"
  refine ite2 (fun c1 => ?_) (fun c1 => ?_)
  · walk_at "vs"
    intro p8 hp8
    have hp80 := but_none B7 hp8 (fun z => pl7.ne hp8 (by simpa using z))
    exact q p8 (.num v) _ (B7.upd _ hp80) ((pl7.same (same_new _ hp8)).mono (by omega)) (.num upd_same) ⟨show v.natAbs < 10 ^ 40 by omega, trivial, trivial, hv0, hv1⟩ ⟨by omega, by omega⟩
  · have hlm : (ns.map V.str).length = ns.length := List.length_map _
    have hl0 : 0 < ((ns.map V.str).length : Int) := by rw [hlm]; omega
    have hlog : ((ns.map V.str).length : Int).natAbs.log2 < 9000 := by
      rw [hlm]
      exact Nat.lt_of_le_of_lt (Nat.log2_le_self _) (by omega)
    walk_at "vs"
    intro n6 H8 n60 n61 b8 pl8
    have B8 := B7.trans b8
    have el8 := B8 _ _ (by simpa using nlp) el
    obtain ⟨x, hx, hxm⟩ : ∃ x, atI (ns.map V.str) n6 = some (.str x) ∧ x ∈ ns := by
      obtain ⟨j, rfl⟩ := Int.eq_ofNat_of_zero_le n60
      have hj : j < ns.length := by rw [hlm] at n61; omega
      exact ⟨ns[j], atI_nat (by rw [List.getElem?_map, List.getElem?_eq_getElem hj]; rfl), List.getElem_mem hj⟩
    walk_at "vs"
    intro p9 hp9
    have hp90 := but_none B8 hp9 (fun z => pl8.ne hp9 (by simpa using z))
    exact q p9 (.rd x) _ (B8.upd _ hp90) ((pl8.same (same_new _ hp9)).mono (by omega)) (.rd upd_same) ⟨hg x hxm, trivial, hxm, trivial⟩ trivial
end

section
variable {P : Program} {w : World} {K : PySem.W.Frag} {mg : Str → Option Value} {base : Heap}
noncomputable def spP : Nat → Sp
  | 0 => fun _ _ _ _ => False
  | d + 1 => spPt d
noncomputable abbrev s_law_part : Stmt := top 19
theorem sc_law_part : FnScope ["pool", "names", "deep", "most", "kind", "one", "some", "other"] ["pool", "names", "deep", "most"] (defScope s_law_part) := ⟨rfl, rfl, rfl, by decide +kernel, rfl, by decide +kernel, by decide +kernel⟩
theorem lo_law_part_kind : Loc (defScope s_law_part) "kind" := by decide +kernel
theorem gl_law_part__law_take : (defScope s_law_part).names.lookup ("_law_take" : Str) = some NameKind.globalImplicit := by decide +kernel
theorem vo_law_part_pool : VarOk (defScope s_law_part) "pool" := by decide +kernel
theorem db_law_part__law_take : (("_law_take" : Str) == ("__debug__" : Str)) = false := by decide +kernel
theorem vo_law_part_kind : VarOk (defScope s_law_part) "kind" := by decide +kernel
theorem vo_law_part_deep : VarOk (defScope s_law_part) "deep" := by decide +kernel
theorem gl_law_part__law_leaf : (defScope s_law_part).names.lookup ("_law_leaf" : Str) = some NameKind.globalImplicit := by decide +kernel
theorem vo_law_part_most : VarOk (defScope s_law_part) "most" := by decide +kernel
theorem vo_law_part_names : VarOk (defScope s_law_part) "names" := by decide +kernel
theorem db_law_part__law_leaf : (("_law_leaf" : Str) == ("__debug__" : Str)) = false := by decide +kernel
theorem lo_law_part_one : Loc (defScope s_law_part) "one" := by decide +kernel
theorem gl_law_part__law_part : (defScope s_law_part).names.lookup ("_law_part" : Str) = some NameKind.globalImplicit := by decide +kernel
theorem db_law_part__law_part : (("_law_part" : Str) == ("__debug__" : Str)) = false := by decide +kernel
theorem lo_law_part_some : Loc (defScope s_law_part) "some" := by decide +kernel
theorem gl_law_part_range : (defScope s_law_part).names.lookup ("range" : Str) = some NameKind.globalImplicit := by decide +kernel
theorem nn_law_part_len : ("len" : Str) ≠ "__name__" := by decide +kernel
theorem db_law_part_len : (("len" : Str) == ("__debug__" : Str)) = false := by decide +kernel
theorem gl_law_part_tuple : (defScope s_law_part).names.lookup ("tuple" : Str) = some NameKind.globalImplicit := by decide +kernel
theorem vo_law_part_some : VarOk (defScope s_law_part) "some" := by decide +kernel
theorem nn_law_part_tuple : ("tuple" : Str) ≠ "__name__" := by decide +kernel
theorem db_law_part_tuple : (("tuple" : Str) == ("__debug__" : Str)) = false := by decide +kernel
theorem vo_law_part_one : VarOk (defScope s_law_part) "one" := by decide +kernel
theorem lo_law_part_other : Loc (defScope s_law_part) "other" := by decide +kernel
theorem vo_law_part_other : VarOk (defScope s_law_part) "other" := by decide +kernel
theorem step_law_part {d : Nat} {f g0 g1 : Addr} {fd gd0 gd1 : FuncData} (T_law_part : FnT K mg "_law_part" s_law_part ["pool", "names", "deep", "most"] f fd) (T_law_take : FnT K mg "_law_take" s_law_take ["pool", "many"] g0 gd0) (G_law_take : FnOk P w K mg base CX0 1 g0 gd0 ["pool", "many"] spTk)
    (T_law_leaf : FnT K mg "_law_leaf" s_law_leaf ["pool", "names", "most"] g1 gd1) (G_law_leaf : FnOk P w K mg base CX0 2 g1 gd1 ["pool", "names", "most"] spLf) (G_law_part : FnOk P w K mg base CX0 (d + 2) f fd ["pool", "names", "deep", "most"] (spP d)) (T : Blt mg) :
    FnOk P w K mg base CX0 (d + 3) f fd ["pool", "names", "deep", "most"] (spPt d) := by
  refine T_law_part.F.okQ sc_law_part (fun vs H Q E h => ?_) (fun cdv A outer s H vs Q E hr h => ?_)
  · obtain ⟨p, l, c, ns, deep, rfl, _⟩ := h
    rfl
  obtain ⟨p, l, c, ns, deep, rfl, hdeep, hd3, hp, hc, nlp, el, hn1, hn7, hg, q⟩ := h
  refine ⟨_, (qss_cons (qs_set (i := 4) sc_law_part.nd rfl lo_law_part_kind (qe_call (G_law_take.mono (by omega)) hr gl_law_part__law_take T_law_take.m T_law_take.F.kp T_law_take.b .nil pass0 (qa_N (qe_var 0 vo_law_part_pool) (qa_C qe_int qa_nil)) db_law_part__law_take))
    (qss_cons (qs_if (qt_w (qw_or (qt_cmp qop_eq (qe_var 2 vo_law_part_deep) qe_int (nomarkQ _)) (qw_or1 (qt_cmp qop_lt (qe_var 4 vo_law_part_kind) qe_int (nomarkQ _))))) (qss_one (qs_ret (qe_call (G_law_leaf.mono (by omega)) hr gl_law_part__law_leaf T_law_leaf.m T_law_leaf.F.kp T_law_leaf.b .nil pass0 (qa_N (qe_var 0 vo_law_part_pool) (qa_N (qe_var 1 vo_law_part_names) (qa_N (qe_var 3 vo_law_part_most) qa_nil))) db_law_part__law_leaf))) qss_nil)
    (qss_cons (qs_set (i := 5) sc_law_part.nd rfl lo_law_part_one (qe_call (G_law_part.mono (by omega)) hr gl_law_part__law_part T_law_part.m T_law_part.F.kp T_law_part.b .nil pass0 (qa_N (qe_var 0 vo_law_part_pool) (qa_N (qe_var 1 vo_law_part_names) (qa_B (qe_op qop_sub (qe_var 2 vo_law_part_deep) qe_int) (qa_N (qe_var 3 vo_law_part_most) qa_nil)))) db_law_part__law_part))
    (qss_cons (qs_if (qt_w (qw_and (qt_cmp qop_lt (qe_var 4 vo_law_part_kind) qe_int (nomarkQ _)) (qw_and1 (qt_cmp (qop_neD hr.units) (qe_var 1 vo_law_part_names) (qe_lst qa_nil) (nomarkQ _))))) (qss_cons (qs_setcomp (i := 6) rfl sc_law_part.nd rfl lo_law_part_some (n := 1) (fr := [1, 0]) (N := ["k", "names", "pool"]) (cs_mk (scX := defScope s_law_part) (NX := ["pool", "names", "deep", "most", "kind", "one", "some", "other"]) rfl rfl (by decide +kernel)) (qi_range1 gl_law_part_range T.b_range (qa_B (qe_op qop_add qe_int (qe_call (G_law_take.mono (by omega)) hr gl_law_part__law_take T_law_take.m T_law_take.F.kp T_law_take.b .nil pass0 (qa_N (qe_var 0 vo_law_part_pool) (qa_C qe_int qa_nil)) db_law_part__law_take)) qa_nil)) (fun _ _ _ _ _ => (qgx (i := 0) (show List.Nodup (α := Str) ["k", "names", "pool"] by decide) (locC (by decide +kernel)))) (fun _ _ _ _ _ => qi_nil) (fun _ _ _ _ _ => (qe_ix (qix_listK (K := K) rfl) (qe_var 1 (VarC.ok (by decide +kernel))) (qe_call (G_law_take.mono (by omega)) hr (glC (by decide +kernel)) T_law_take.m T_law_take.F.kp T_law_take.b .nil pass0 (qa_N (qe_var 2 (VarC.ok (by decide +kernel))) (qa_F (qe_callB (qc_len_seqK (K := K) rfl) (glC (by decide +kernel)) T.b_len bt_len (qa_N (qe_var 1 (VarC.ok (by decide +kernel))) qa_nil) nn_law_part_len db_law_part_len) qa_nil)) db_law_part__law_take))) rfl)
    (qss_one (qs_ret (qe_tup (qa_C qe_str (qa_N (qe_var 5 vo_law_part_one) (qa_F (qe_callTy qc_tuple_of gl_law_part_tuple T.b_tuple bt_tuple (qa_N (qe_var 6 vo_law_part_some) qa_nil) nn_law_part_tuple db_law_part_tuple) qa_nil))))))) qss_nil)
    (qss_cons (qs_set (i := 7) sc_law_part.nd rfl lo_law_part_other (qe_call (G_law_part.mono (by omega)) hr gl_law_part__law_part T_law_part.m T_law_part.F.kp T_law_part.b .nil pass0 (qa_N (qe_var 0 vo_law_part_pool) (qa_N (qe_var 1 vo_law_part_names) (qa_B (qe_op qop_sub (qe_var 2 vo_law_part_deep) qe_int) (qa_N (qe_var 3 vo_law_part_most) qa_nil)))) db_law_part__law_part))
    (qss_cons (qs_if (qt_cmp qop_lt (qe_var 4 vo_law_part_kind) qe_int (nomarkQ _)) (qss_one (qs_ret (qe_tup (qa_C qe_str (qa_N (qe_var 5 vo_law_part_one) (qa_N (qe_var 7 vo_law_part_other) (qa_F (qe_call (G_law_part.mono (by omega)) hr gl_law_part__law_part T_law_part.m T_law_part.F.kp T_law_part.b .nil pass0 (qa_N (qe_var 0 vo_law_part_pool) (qa_N (qe_var 1 vo_law_part_names) (qa_B (qe_op qop_sub (qe_var 2 vo_law_part_deep) qe_int) (qa_N (qe_var 3 vo_law_part_most) qa_nil)))) db_law_part__law_part) qa_nil))))))) qss_nil)
    (qss_cons (qs_if (qt_w (qw_and (qt_cmp qop_eq (qe_var 2 vo_law_part_deep) qe_int (nomarkQ _)) (qw_and1 (qt_cmp qop_eq (qe_var 4 vo_law_part_kind) qe_int (nomarkQ _))))) (qss_one (qs_ret (qe_tup (qa_C qe_str (qa_N (qe_var 5 vo_law_part_one) (qa_N (qe_var 7 vo_law_part_other) qa_nil)))))) qss_nil)
    (qss_one (qs_ret (qe_tup (qa_S (qe_ix qix_list (qe_lst (qa_C qe_str (qa_C qe_str (qa_C qe_str qa_nil)))) (qe_op qop_mod (qe_var 4 vo_law_part_kind) qe_int)) (qa_N (qe_var 5 vo_law_part_one) (qa_N (qe_var 7 vo_law_part_other) qa_nil))))))))))))), ?_⟩
  have ht := tkN_pos d
  walk_at "vs"
  intro kind H1 k0 k1 b1 pl1
  have el1 := b1 _ _ (by simpa using nlp) el
  have leafq : ∀ a r H', But [p] H1 H' → PlAt H' p (c + 1 + 6) → IsR H' a r → Rok ns r → Leaf r → Q (.ref a) H' := fun a r H' b pl R ok lf => by
    have hw : wR r = 1 := by
      cases r with
      | num n => rfl
      | rd x => rfl
      | bin op a b => exact lf.elim
      | pick a b c => exact lf.elim
      | cho a ns => exact lf.elim
    have hdp : r.depth ≤ 1 := by
      cases r with
      | num n => exact Nat.le_refl _
      | rd x => exact Nat.le_refl _
      | bin op a b => exact lf.elim
      | pick a b c => exact lf.elim
      | cho a ns => exact lf.elim
    exact q a r H' (b1.trans b) (pl.mono (by omega)) R ok (by rw [hw]; exact wN_pos d) (by omega) (fun _ => lf)
  cases d with
  | zero =>
    have hdeep : deep = 0 := hdeep
    subst hdeep
    walk_at "vs"
    exact leafq
  | succ d =>
    have hdeep : deep = (d : Int) + 1 := hdeep
    have hnd : ¬ (deep = 0) := by omega
    walk_at "vs"
    refine ite2 (fun c0 => absurd (V.int.inj (of_decide_eq_true c0)) hnd) (fun _ => ?_)
    walk_at "vs"
    refine ite2 (fun c0 => ?_) (fun c0 => ?_)
    · walk_at "vs"
      exact leafq
    · walk_at "vs"
      intro a1 r1 H2 b2 pl2 R1 ok1 w1 d1 lf1
      have B2 := b1.trans b2
      have el2 := B2 _ _ (by simpa using nlp) el
      have htd : tkN d ≤ 170 := by
        have : d = 0 ∨ d = 1 ∨ d = 2 := by omega
        rcases this with rfl | rfl | rfl <;> decide
      have et : tkN (d + 1) = 3 * tkN d + 20 := rfl
      have ew : wN (d + 1) = 3 * wN d + 3 := rfl
      have fin : ∀ (kd : Str) (a2 : Addr) (r2 : R) (H3 : Hp) (op : Op), kd = op.word → But [p] H H3 → PlAt H3 p (c + 1 + tkN d + tkN d) → IsR H3 a1 r1 → IsR H3 a2 r2 → Rok ns r2 → wR r2 ≤ wN d → r2.depth ≤ d + 1 → (op = .times → Leaf r1 ∧ Leaf r2) → ∀ p9, H3 p9 = none → Q (.ref p9) (upd H3 p9 (.tup [.str kd, .ref a1, .ref a2])) := by
        intro kd a2 r2 H3 op hk b3 pl3 R1 R2 ok2 w2 d2 hlf p9 hp9
        subst hk
        have hp90 := but_none b3 hp9 (fun z => pl3.ne hp9 (by simpa using z))
        have S := same_new (.tup [.str op.word, .ref a1, .ref a2]) hp9
        have lw : ∀ r, Leaf r → wR r = 1 := fun r lf => by
          cases r with
          | num n => rfl
          | rd x => rfl
          | bin op a b => exact lf.elim
          | pick a b c => exact lf.elim
          | cho a ns => exact lf.elim
        exact q p9 (.bin op r1 r2) _ (b3.upd _ hp90) ((pl3.same S).mono (by omega)) (.bin upd_same (R1.same S) (R2.same S)) ⟨⟨ok1.g, ok2.g⟩, ⟨ok1.t, ok2.t, fun z => (hlf z).2⟩, ⟨ok1.i, ok2.i⟩, ⟨ok1.s, ok2.s, fun z => ⟨lw _ (hlf z).1, lw _ (hlf z).2⟩⟩⟩ (by show wR r1 + wR r2 + 2 ≤ _; omega) (by show max r1.depth r2.depth + 1 ≤ _; omega) (fun z => by cases z)
      walk_at "vs"
      refine ite2 (fun c1 => ?_) (fun c1 => ?_)
      · walk_at "vs"
        intro pe hpe
        have npe : pe ∉ [p] := fun z => pl2.ne hpe (by simpa using z)
        have hpe0 := but_none B2 hpe npe
        have S2 := same_new (.lst []) hpe
        have B3 : But [p] H (upd H2 pe (.lst [])) := B2.upd _ hpe0
        have pl3 := pl2.same S2
        have el3 := S2 _ _ el2
        have R13 := R1.same S2
        have e3 : upd H2 pe (.lst []) pe = some (.lst []) := upd_same
        generalize upd H2 pe (.lst []) = H3 at *
        refine ⟨_, _, .lst (SqL.of el3) (datVs_strs _), .lst (SqL.of e3) .nil, shaped_nms hg, by decide, ?_⟩
        rw [eqv_nms hn1]
        walk_at "vs"
        intro n9 H4 n90 n91 b4 pl4
        have B4 := B3.trans b4
        have el4 := B4 _ _ (by simpa using nlp) el
        have R14 := R13.tups (pl3.tups b4)
        walk_at "vs"
        have hlm : (ns.map V.str).length = ns.length := List.length_map _
        have hl0 : 0 < ((ns.map V.str).length : Int) := by rw [hlm]; omega
        have hlog : ((ns.map V.str).length : Int).natAbs.log2 < 9000 := by
          rw [hlm]
          exact Nat.lt_of_le_of_lt (Nat.log2_le_self _) (by omega)
        intro D hD
        have nD : D ∉ [p] := fun z => pl4.ne hD (by simpa using z)
        have nDp : D ≠ p := by simpa using nD
        have nDl : l ≠ D := fun z => by rw [z, hD] at el4; cases el4
        have hD0 := but_none B4 hD nD
        refine comp_range (fun i σ' H' => (∃ t, σ' = t :: [some (.ref l), some (.ref p)]) ∧ ∃ ts : List Str, H' D = some (.lst (ts.map V.str)) ∧ ts.length = i ∧ (∀ x ∈ ts, x ∈ ns) ∧ But [p] H H' ∧ PlAt H' p (c + 1 + tkN d + 1 + i) ∧ IsR H' a1 r1) ?_ ?_ ?_
        · exact ⟨⟨none, rfl⟩, [], upd_same, rfl, by simp, B4.upd _ hD0, pl4.same (same_new _ hD), R14.same (same_new _ hD)⟩
        · intro i σ' H' hi hP
          obtain ⟨⟨t, rfl⟩, ts, e, et', ho, hb, hpl, hR⟩ := hP
          have elH := hb _ _ (by simpa using nlp) el
          have hi9 : (i : Int) < 10 := by omega
          walk_at "vs"
          intro n6 H5 n60 n61 b5 pl5
          have hb5 := hb.trans b5
          have el5 := hb5 _ _ (by simpa using nlp) el
          have e5 := b5 _ _ nD e
          have R5 := hR.tups (hpl.tups b5)
          obtain ⟨x, hx, hxm⟩ : ∃ x, atI (ns.map V.str) n6 = some (.str x) ∧ x ∈ ns := by
            obtain ⟨j, rfl⟩ := Int.eq_ofNat_of_zero_le n60
            have hj : j < ns.length := by rw [hlm] at n61; omega
            exact ⟨ns[j], atI_nat (by rw [List.getElem?_map, List.getElem?_eq_getElem hj]; rfl), List.getElem_mem hj⟩
          have hz : (ts.map V.str).length < sizeLine := by rw [List.length_map]; exact small1000 (by omega)
          walk_at "vs"
          have tup5 : Tups H5 (upd H5 D (.lst (ts.map V.str ++ [.str x]))) := fun q xs e' => (upd_ne (fun z => by rw [z, e5] at e'; cases e')).trans e'
          refine ⟨⟨_, rfl⟩, ts ++ [x], ?_, by rw [List.length_append, et']; rfl, ?_, hb5.upd _ hD0, pl5.keep (But.set _ (by simp)) (S := [D]) (by simpa using Ne.symm nDp), R5.tups tup5⟩
          · rw [List.map_append]; exact upd_same
          · intro y hy
            rcases List.mem_append.mp hy with z | z
            · exact ho y z
            · have : y = x := by simpa using z
              rw [this]; exact hxm
        · intro σ' H' hP
          obtain ⟨_, ts, e, et', ho, hb, hpl, hR⟩ := hP
          walk_at "vs"
          intro pt hpt
          have hpt0 := but_none hb hpt (fun z => hpl.ne hpt (by simpa using z))
          have S5 := same_new (.tup (ts.map V.str)) hpt
          walk_at "vs"
          intro p9 hp9
          have hb5 := hb.upd (.tup (ts.map V.str)) hpt0
          have pl5 := hpl.same S5
          have hp90 := but_none hb5 hp9 (fun z => pl5.ne hp9 (by simpa using z))
          have S6 := same_new (.tup [.str "choose", .ref a1, .ref pt]) hp9
          exact q p9 (.cho r1 ts) _ (hb5.upd _ hp90) ((pl5.same S6).mono (by omega)) (.cho upd_same ((hR.same S5).same S6) (S6 _ _ upd_same)) ⟨⟨ok1.g, by omega, by omega, fun x hx => hg x (ho x hx)⟩, ⟨ok1.t, by omega⟩, ⟨ok1.i, ho⟩, ok1.s⟩ (by show wR r1 + 3 ≤ _; omega) (by show r1.depth + 1 ≤ _; omega) (fun z => by cases z)
      · walk_at "vs"
        intro a2 r2 H3 b3 pl3 R2 ok2 w2 d2 lf2
        have B3 := B2.trans b3
        have el3 := B3 _ _ (by simpa using nlp) el
        have R13 := R1.tups (pl2.tups b3)
        walk_at "vs"
        refine ite2 (fun c3 => ?_) (fun c3 => ?_)
        · walk_at "vs"
          intro a3 r3 H4 b4 pl4 R3 ok3 w3 d3 lf3
          have B4 := B3.trans b4
          have R14 := R13.tups (pl3.tups b4)
          have R24 := R2.tups (pl3.tups b4)
          walk_at "vs"
          intro p9 hp9
          have hp90 := but_none B4 hp9 (fun z => pl4.ne hp9 (by simpa using z))
          have S := same_new (.tup [.str "pick", .ref a1, .ref a2, .ref a3]) hp9
          exact q p9 (.pick r1 r2 r3) _ (B4.upd _ hp90) ((pl4.same S).mono (by omega)) (.pick upd_same (R14.same S) (R24.same S) (R3.same S)) ⟨⟨ok1.g, ok2.g, ok3.g⟩, ⟨ok1.t, ok2.t, ok3.t⟩, ⟨ok1.i, ok2.i, ok3.i⟩, ⟨ok1.s, ok2.s, ok3.s⟩⟩ (by show wR r1 + wR r2 + wR r3 + 2 ≤ _; omega) (by show max r1.depth (max r2.depth r3.depth) + 1 ≤ _; omega) (fun z => by cases z)
        · walk_at "vs"
          obtain ⟨op, hop, hat⟩ : ∃ op : Op, op ≠ .times ∧ atI [V.str "plus", V.str "minus", V.str "most"] (kind % 3) = some (.str op.word) := by
            have hm : kind % 3 = 0 ∨ kind % 3 = 1 ∨ kind % 3 = 2 := by omega
            rcases hm with hm | hm | hm
            · rw [hm]; exact ⟨.plus, by decide, rfl⟩
            · rw [hm]; exact ⟨.minus, by decide, rfl⟩
            · rw [hm]; exact ⟨.most, by decide, rfl⟩
          have last : ∀ pz, H3 pz = none → ∀ p9, upd H3 pz (.lst [.str "plus", .str "minus", .str "most"]) p9 = none → Q (.ref p9) (upd (upd H3 pz (.lst [.str "plus", .str "minus", .str "most"])) p9 (.tup [.str op.word, .ref a1, .ref a2])) := fun pz hpz p9 hp9 => by
            have npz : pz ∉ [p] := fun z => pl3.ne hpz (by simpa using z)
            have hpz0 := but_none B3 hpz npz
            have S3 := same_new (.lst [.str "plus", .str "minus", .str "most"]) hpz
            exact fin op.word a2 r2 _ op rfl (B3.upd _ hpz0) (pl3.same S3) (R13.same S3) (R2.same S3) ok2 w2 d2 (fun z => absurd z hop) p9 hp9
          refine ite2 (fun c4 => ?_) (fun c4 => ?_)
          · have hd0 : d = 0 := by
              have := V.int.inj (of_decide_eq_true c4)
              omega
            walk_at "vs"
            refine ite2 (fun c5 => ?_) (fun c5 => ?_)
            · walk_at "vs"
              exact fin "times" a2 r2 H3 .times rfl B3 pl3 R13 R2 ok2 w2 d2 (fun _ => ⟨lf1 hd0, lf2 hd0⟩)
            · walk_at "vs"
              intro pz hpz
              walk_at "vs"
              exact last pz hpz
          · walk_at "vs"
            intro pz hpz
            walk_at "vs"
            exact last pz hpz
end

section
variable {P : Program} {w : World} {K : PySem.W.Frag} {mg : Str → Option Value} {base : Heap}
theorem ok_law_part {f g0 g1 : Addr} {fd gd0 gd1 : FuncData} (T_law_part : FnT K mg "_law_part" s_law_part ["pool", "names", "deep", "most"] f fd) (T_law_take : FnT K mg "_law_take" s_law_take ["pool", "many"] g0 gd0) (G_law_take : FnOk P w K mg base CX0 1 g0 gd0 ["pool", "many"] spTk)
    (T_law_leaf : FnT K mg "_law_leaf" s_law_leaf ["pool", "names", "most"] g1 gd1) (G_law_leaf : FnOk P w K mg base CX0 2 g1 gd1 ["pool", "names", "most"] spLf) (T : Blt mg) :
    ∀ d, FnOk P w K mg base CX0 (d + 3) f fd ["pool", "names", "deep", "most"] (spPt d)
  | 0 => step_law_part T_law_part T_law_take G_law_take T_law_leaf G_law_leaf (never fun vs H Q E h => h) T
  | d + 1 => step_law_part T_law_part T_law_take G_law_take T_law_leaf G_law_leaf (ok_law_part T_law_part T_law_take G_law_take T_law_leaf G_law_leaf T d) T
noncomputable def spPA : Sp := fun vs H Q _ => ∃ (p l : Addr) (c : Nat) (ns : List Str) (deep : Int), vs = [.ref p, .ref l, .int deep, .int 1000000] ∧ 0 ≤ deep ∧ deep < 4 ∧ PlAt H p c ∧ c ≤ 6000 ∧ l ≠ p ∧ H l = some (.lst (ns.map V.str)) ∧ 1 ≤ ns.length ∧ ns.length ≤ 7 ∧ (∀ x ∈ ns, GName x) ∧
  ∀ a r H', But [p] H H' → PlAt H' p (c + 530) → IsR H' a r → Rok ns r → wR r ≤ 66 → r.depth ≤ 4 → Q (.ref a) H'
theorem ok_law_partA {f g0 g1 : Addr} {fd gd0 gd1 : FuncData} (T_law_part : FnT K mg "_law_part" s_law_part ["pool", "names", "deep", "most"] f fd) (T_law_take : FnT K mg "_law_take" s_law_take ["pool", "many"] g0 gd0) (G_law_take : FnOk P w K mg base CX0 1 g0 gd0 ["pool", "many"] spTk)
    (T_law_leaf : FnT K mg "_law_leaf" s_law_leaf ["pool", "names", "most"] g1 gd1) (G_law_leaf : FnOk P w K mg base CX0 2 g1 gd1 ["pool", "names", "most"] spLf) (T : Blt mg) : FnOk P w K mg base CX0 6 f fd ["pool", "names", "deep", "most"] spPA := by
  have ok := ok_law_part T_law_part T_law_take G_law_take T_law_leaf G_law_leaf T
  refine ⟨fun vs H Q E h => ?_, fun A outer s H args us vs Q E hr he hb hv hs => ?_⟩
  · obtain ⟨p, l, c, ns, deep, rfl, _⟩ := h
    rfl
  · obtain ⟨p, l, c, ns, deep, rfl, h0, h4, hp, hc, nlp, el, hn1, hn7, hg, q⟩ := hs
    obtain ⟨d, rfl⟩ := Int.eq_ofNat_of_zero_le h0
    have hd : d = 0 ∨ d = 1 ∨ d = 2 ∨ d = 3 := by omega
    have ht : tkN d ≤ 530 := by rcases hd with rfl | rfl | rfl | rfl <;> decide
    have hw : wN d ≤ 66 := by rcases hd with rfl | rfl | rfl | rfl <;> decide
    exact ((ok d).mono (by omega)).run A outer s H args us _ Q E hr he hb hv ⟨p, l, c, ns, _, rfl, rfl, by omega, hp, by omega, nlp, el, hn1, hn7, hg, fun a r H' b pl R o w1 d1 _ => q a r H' b (pl.mono (by omega)) R o (by omega) (by omega)⟩
noncomputable abbrev s_law_recipe : Stmt := top 20
theorem sc_law_recipe : FnScope ["pool", "names", "most", "found", "k"] ["pool", "names", "most"] (defScope s_law_recipe) := ⟨rfl, rfl, rfl, by decide +kernel, rfl, by decide +kernel, by decide +kernel⟩
theorem lo_law_recipe_found : Loc (defScope s_law_recipe) "found" := by decide +kernel
theorem gl_law_recipe__law_part : (defScope s_law_recipe).names.lookup ("_law_part" : Str) = some NameKind.globalImplicit := by decide +kernel
theorem vo_law_recipe_most : VarOk (defScope s_law_recipe) "most" := by decide +kernel
theorem gl_law_recipe__law_take : (defScope s_law_recipe).names.lookup ("_law_take" : Str) = some NameKind.globalImplicit := by decide +kernel
theorem vo_law_recipe_pool : VarOk (defScope s_law_recipe) "pool" := by decide +kernel
theorem db_law_recipe__law_take : (("_law_take" : Str) == ("__debug__" : Str)) = false := by decide +kernel
theorem vo_law_recipe_names : VarOk (defScope s_law_recipe) "names" := by decide +kernel
theorem db_law_recipe__law_part : (("_law_part" : Str) == ("__debug__" : Str)) = false := by decide +kernel
theorem gl_law_recipe_range : (defScope s_law_recipe).names.lookup ("range" : Str) = some NameKind.globalImplicit := by decide +kernel
theorem lo_law_recipe_k : Loc (defScope s_law_recipe) "k" := by decide +kernel
theorem gl_law_recipe__law_leaf : (defScope s_law_recipe).names.lookup ("_law_leaf" : Str) = some NameKind.globalImplicit := by decide +kernel
theorem db_law_recipe__law_leaf : (("_law_leaf" : Str) == ("__debug__" : Str)) = false := by decide +kernel
theorem vo_law_recipe_found : VarOk (defScope s_law_recipe) "found" := by decide +kernel
theorem ok_law_recipe {f g0 g1 g2 : Addr} {fd gd0 gd1 gd2 : FuncData} (T_law_recipe : FnT K mg "_law_recipe" s_law_recipe ["pool", "names", "most"] f fd) (T_law_take : FnT K mg "_law_take" s_law_take ["pool", "many"] g0 gd0) (G_law_take : FnOk P w K mg base CX0 1 g0 gd0 ["pool", "many"] spTk)
    (T_law_leaf : FnT K mg "_law_leaf" s_law_leaf ["pool", "names", "most"] g1 gd1) (G_law_leaf : FnOk P w K mg base CX0 2 g1 gd1 ["pool", "names", "most"] spLf) (T_law_part : FnT K mg "_law_part" s_law_part ["pool", "names", "deep", "most"] g2 gd2) (G_law_part : FnOk P w K mg base CX0 6 g2 gd2 ["pool", "names", "deep", "most"] spPA) (T : Blt mg) :
    FnOk P w K mg base CX0 7 f fd ["pool", "names", "most"] spRcp := by
  refine T_law_recipe.F.okQ sc_law_recipe (fun vs H Q E h => ?_) (fun cdv A outer s H vs Q E hr h => ?_)
  · obtain ⟨p, l, c, ns, rfl, _⟩ := h
    rfl
  obtain ⟨p, l, c, ns, rfl, hp, hc, nlp, el, hn1, hn7, hg, q⟩ := h
  refine ⟨_, (qss_cons (qs_set (i := 3) sc_law_recipe.nd rfl lo_law_recipe_found (qe_call (G_law_part.mono (by omega)) hr gl_law_recipe__law_part T_law_part.m T_law_part.F.kp T_law_part.b .nil pass0 (qa_N (qe_var 0 vo_law_recipe_pool) (qa_N (qe_var 1 vo_law_recipe_names) (qa_F (qe_call (G_law_take.mono (by omega)) hr gl_law_recipe__law_take T_law_take.m T_law_take.F.kp T_law_take.b .nil pass0 (qa_N (qe_var 0 vo_law_recipe_pool) (qa_C qe_int qa_nil)) db_law_recipe__law_take) (qa_N (qe_var 2 vo_law_recipe_most) qa_nil)))) db_law_recipe__law_part))
    (qss_cons (qs_for PassesOwn.never rfl (qi_range1 gl_law_recipe_range T.b_range (qa_S (qe_ix qix_list (qe_lst (qa_C qe_int (qa_F (qe_call (G_law_take.mono (by omega)) hr gl_law_recipe__law_take T_law_take.m T_law_take.F.kp T_law_take.b .nil pass0 (qa_N (qe_var 0 vo_law_recipe_pool) (qa_C qe_int qa_nil)) db_law_recipe__law_take) qa_nil))) (qe_call (G_law_take.mono (by omega)) hr gl_law_recipe__law_take T_law_take.m T_law_take.F.kp T_law_take.b .nil pass0 (qa_N (qe_var 0 vo_law_recipe_pool) (qa_C qe_int qa_nil)) db_law_recipe__law_take)) qa_nil)) (qg_name (i := 4) sc_law_recipe.nd rfl lo_law_recipe_k) (qss_one (qs_set (i := 3) sc_law_recipe.nd rfl lo_law_recipe_found (qe_tup (qa_S (qe_ix qix_list (qe_lst (qa_C qe_str (qa_C qe_str (qa_C qe_str qa_nil)))) (qe_call (G_law_take.mono (by omega)) hr gl_law_recipe__law_take T_law_take.m T_law_take.F.kp T_law_take.b .nil pass0 (qa_N (qe_var 0 vo_law_recipe_pool) (qa_C qe_int qa_nil)) db_law_recipe__law_take)) (qa_N (qe_var 3 vo_law_recipe_found) (qa_F (qe_call (G_law_leaf.mono (by omega)) hr gl_law_recipe__law_leaf T_law_leaf.m T_law_leaf.F.kp T_law_leaf.b .nil pass0 (qa_N (qe_var 0 vo_law_recipe_pool) (qa_N (qe_var 1 vo_law_recipe_names) (qa_N (qe_var 2 vo_law_recipe_most) qa_nil))) db_law_recipe__law_leaf) qa_nil)))))))
    (qss_one (qs_ret (qe_var 3 vo_law_recipe_found))))), ?_⟩
  walk_at "vs"
  intro n1 H1 n10 n11 b1 pl1
  have el1 := b1 _ _ (by simpa using nlp) el
  walk_at "vs"
  intro a1 r1 H2 b2 pl2 R1 ok1 w1 d1
  have B2 := b1.trans b2
  walk_at "vs"
  intro n3 H3 n30 n31 b3 pl3
  have B3 := B2.trans b3
  have R3 := R1.tups (pl2.tups b3)
  walk_at "vs"
  intro pz hpz
  have npz : pz ∉ [p] := fun z => pl3.ne hpz (by simpa using z)
  have hpz0 := but_none B3 hpz npz
  have S3 := same_new (.lst [V.int 0, V.int n3]) hpz
  have B4 : But [p] H (upd H3 pz (.lst [V.int 0, V.int n3])) := B3.upd _ hpz0
  have e4 : upd H3 pz (.lst [V.int 0, V.int n3]) pz = some (.lst [V.int 0, V.int n3]) := upd_same
  have pl4 := pl3.same S3
  have R4 := R3.same S3
  generalize upd H3 pz (.lst [V.int 0, V.int n3]) = H4 at *
  walk_at "vs"
  intro n5 H5 n50 n51 b5 pl5
  have B5 := B4.trans b5
  have R5 := R4.tups (pl4.tups b5)
  have e5 := b5 _ _ npz e4
  obtain ⟨m, hm, hm4⟩ : ∃ m : Nat, atI [V.int 0, V.int n3] n5 = some (.int m) ∧ m ≤ 4 := by
    obtain ⟨k, rfl⟩ := Int.eq_ofNat_of_zero_le n30
    have : n5 = 0 ∨ n5 = 1 := by omega
    rcases this with rfl | rfl
    · exact ⟨0, rfl, by omega⟩
    · exact ⟨k, rfl, by omega⟩
  iterate 3 walk_at "v"
  refine ⟨hm, _, rfl, by omega, by omega, ?_⟩
  refine for_range (fun i σ H' => (∃ a r t, σ = [some (.ref p), some (.ref l), some (.int 1000000), some (.ref a), t] ∧ IsR H' a r ∧ Rok ns r ∧ wR r ≤ 66 + 4 * i ∧ r.depth ≤ 4 + i) ∧ But [p] H H' ∧ PlAt H' p (c + 540 + 10 * i)) ?_ ?_ ?_
  · exact ⟨⟨a1, r1, none, rfl, R5, ok1, by omega, by omega⟩, B5, pl5.mono (by omega)⟩
  · intro i σ H' hi hP
    obtain ⟨⟨a, r, t, rfl, R, ok, hw, hd⟩, B, pl⟩ := hP
    have hi4 : i < 4 := by
      have : i < (m : Int).toNat := hi
      omega
    walk_at "vs"
    intro py hpy
    have npy : py ∉ [p] := fun z => pl.ne hpy (by simpa using z)
    have hpy0 := but_none B hpy npy
    have S6 := same_new (.lst [V.str "plus", V.str "minus", V.str "most"]) hpy
    have B6 : But [p] H (upd H' py (.lst [V.str "plus", V.str "minus", V.str "most"])) := B.upd _ hpy0
    have e6 : upd H' py (.lst [V.str "plus", V.str "minus", V.str "most"]) py = some (.lst [V.str "plus", V.str "minus", V.str "most"]) := upd_same
    have pl6 := pl.same S6
    have R6 := R.same S6
    generalize upd H' py (.lst [V.str "plus", V.str "minus", V.str "most"]) = H6 at *
    walk_at "vs"
    intro n7 H7 n70 n71 b7 pl7
    have B7 := B6.trans b7
    have R7 := R6.tups (pl6.tups b7)
    have e7 := b7 _ _ npy e6
    have el7 := B7 _ _ (by simpa using nlp) el
    obtain ⟨op, hop, hat⟩ : ∃ op : Op, op ≠ .times ∧ atI [V.str "plus", V.str "minus", V.str "most"] n7 = some (.str op.word) := by
      have hm : n7 = 0 ∨ n7 = 1 ∨ n7 = 2 := by omega
      rcases hm with rfl | rfl | rfl
      · exact ⟨.plus, by decide, rfl⟩
      · exact ⟨.minus, by decide, rfl⟩
      · exact ⟨.most, by decide, rfl⟩
    walk_at "vs"
    intro a8 r8 H8 b8 pl8 R8 ok8 lf8
    have B8 := B7.trans b8
    have R18 := R7.tups (pl7.tups b8)
    walk_at "vs"
    intro p9 hp9
    have hp90 := but_none B8 hp9 (fun z => pl8.ne hp9 (by simpa using z))
    have S9 := same_new (.tup [V.str op.word, .ref a, .ref a8]) hp9
    have hw8 : wR r8 = 1 ∧ r8.depth = 1 := by
      cases r8 with
      | num n => exact ⟨rfl, rfl⟩
      | rd x => exact ⟨rfl, rfl⟩
      | bin op a b => exact lf8.elim
      | pick a b c => exact lf8.elim
      | cho a ns => exact lf8.elim
    exact ⟨⟨p9, .bin op r r8, _, rfl, .bin upd_same (R18.same S9) (R8.same S9), ⟨⟨ok.g, ok8.g⟩, ⟨ok.t, ok8.t, fun z => absurd z hop⟩, ⟨ok.i, ok8.i⟩, ⟨ok.s, ok8.s, fun z => absurd z hop⟩⟩, by show wR r + wR r8 + 2 ≤ _; omega, by show max r.depth r8.depth + 1 ≤ _; omega⟩, B8.upd _ hp90, (pl8.same S9).mono (by omega)⟩
  · intro σ H' hP
    obtain ⟨⟨a, r, t, rfl, R, ok, hw, hd⟩, B, pl⟩ := hP
    have hm' : (m : Int).toNat = m := by omega
    walk_at "vs"
    exact q a r H' B (pl.mono (by omega)) R ok (by omega) (by omega)
end

section
variable {P : Program} {w : World} {K : PySem.W.Frag} {mg : Str → Option Value} {base : Heap}
noncomputable abbrev s_law_names : Stmt := top 17
theorem sc_law_names : FnScope ["pool", "letters", "found", "k", "wide", "word"] ["pool"] (defScope s_law_names) := ⟨rfl, rfl, rfl, by decide +kernel, rfl, by decide +kernel, by decide +kernel⟩
theorem lo_law_names_letters : Loc (defScope s_law_names) "letters" := by decide +kernel
theorem lo_law_names_found : Loc (defScope s_law_names) "found" := by decide +kernel
theorem gl_law_names_range : (defScope s_law_names).names.lookup ("range" : Str) = some NameKind.globalImplicit := by decide +kernel
theorem lo_law_names_k : Loc (defScope s_law_names) "k" := by decide +kernel
theorem lo_law_names_wide : Loc (defScope s_law_names) "wide" := by decide +kernel
theorem gl_law_names__law_take : (defScope s_law_names).names.lookup ("_law_take" : Str) = some NameKind.globalImplicit := by decide +kernel
theorem vo_law_names_pool : VarOk (defScope s_law_names) "pool" := by decide +kernel
theorem db_law_names__law_take : (("_law_take" : Str) == ("__debug__" : Str)) = false := by decide +kernel
theorem lo_law_names_word : Loc (defScope s_law_names) "word" := by decide +kernel
theorem vo_law_names_found : VarOk (defScope s_law_names) "found" := by decide +kernel
theorem vo_law_names_word : VarOk (defScope s_law_names) "word" := by decide +kernel
theorem gl_law_names_list : (defScope s_law_names).names.lookup ("list" : Str) = some NameKind.globalImplicit := by decide +kernel
theorem nn_law_names_list : ("list" : Str) ≠ "__name__" := by decide +kernel
theorem db_law_names_list : (("list" : Str) == ("__debug__" : Str)) = false := by decide +kernel
theorem ok_law_names {f g0 : Addr} {fd gd0 : FuncData} (T_law_names : FnT K mg "_law_names" s_law_names ["pool"] f fd) (T_law_take : FnT K mg "_law_take" s_law_take ["pool", "many"] g0 gd0) (G_law_take : FnOk P w K mg base CX0 1 g0 gd0 ["pool", "many"] spTk) (T : Blt mg) :
    FnOk P w K mg base CX0 2 f fd ["pool"] spNms := by
  refine T_law_names.F.okQ sc_law_names (fun vs H Q E h => ?_) (fun cdv A outer s H vs Q E hr h => ?_)
  · obtain ⟨p, c, rfl, _⟩ := h
    rfl
  obtain ⟨p, c, rfl, hp, hc, q⟩ := h
  refine ⟨_, (qss_cons (qs_set (i := 1) sc_law_names.nd rfl lo_law_names_letters qe_str)
    (qss_cons (qs_set (i := 2) sc_law_names.nd rfl lo_law_names_found qe_dnewK)
    (qss_cons (qs_for PassesOwn.never rfl (qi_range1 gl_law_names_range T.b_range (qa_C qe_int qa_nil)) (qg_name (i := 3) sc_law_names.nd rfl lo_law_names_k) (qss_cons (qs_set (i := 4) sc_law_names.nd rfl lo_law_names_wide (qe_ix qix_list (qe_lst (qa_C qe_int (qa_C qe_int qa_nil))) (qe_call (G_law_take.mono (by omega)) hr gl_law_names__law_take T_law_take.m T_law_take.F.kp T_law_take.b .nil pass0 (qa_N (qe_var 0 vo_law_names_pool) (qa_C qe_int qa_nil)) db_law_names__law_take)))
    (qss_cons (qs_set (i := 5) sc_law_names.nd rfl lo_law_names_word (qe_bm PySem.F.plainAttrs_str PySem.F.slot_str_join PySem.F.type_str_join qmt_join qe_str (qa_M (qe_comp rfl (n := 1) (fr := [1, 0, 4]) (N := ["at", "letters", "pool", "wide"]) (cs_mk (scX := defScope s_law_names) (NX := ["pool", "letters", "found", "k", "wide", "word"]) rfl rfl (by decide +kernel)) (qi_range1 gl_law_names_range T.b_range (qa_C qe_int qa_nil)) (fun _ _ _ _ _ => (qgx (i := 0) (show List.Nodup (α := Str) ["at", "letters", "pool", "wide"] by decide) (locC (by decide +kernel)))) (fun _ _ _ _ _ => qi_nil) (fun _ _ _ _ _ => (qe_ix qix_str (qe_var 1 (VarC.ok (by decide +kernel))) (qe_call (G_law_take.mono (by omega)) hr (glC (by decide +kernel)) T_law_take.m T_law_take.F.kp T_law_take.b .nil pass0 (qa_N (qe_var 2 (VarC.ok (by decide +kernel))) (qa_N (qe_var 3 (VarC.ok (by decide +kernel))) qa_nil)) db_law_names__law_take)))) qa_nil)))
    (qss_one (qs_dput (hu_of hr) (qe_var 2 vo_law_names_found) (qe_slice qsl_str (qe_var 5 vo_law_names_word) qo_none (qo_some (qe_op qop_add qe_int (qe_call (G_law_take.mono (by omega)) hr gl_law_names__law_take T_law_take.m T_law_take.F.kp T_law_take.b .nil pass0 (qa_N (qe_var 0 vo_law_names_pool) (qa_C qe_int qa_nil)) db_law_names__law_take)))) qe_bl)))))
    (qss_one (qs_ret (qe_callTy (qc_listD rfl) gl_law_names_list T.b_list bt_list (qa_N (qe_var 2 vo_law_names_found) qa_nil) nn_law_names_list db_law_names_list)))))), ?_⟩
  walk_at "vs"
  intro d hd
  have S0 := same_new (.dK []) hd
  have e0 : upd H d (.dK []) d = some (.dK []) := upd_same
  have pl0 := hp.same S0
  have B0 : But [p] H (upd H d (.dK [])) := But.of_same S0
  have ndp : d ∉ [p] := fun z => hp.ne hd (by simpa using z)
  generalize upd H d (.dK []) = H0 at *
  walk_at "vs"
  refine for_range (fun i σ H' => (∃ t u v, σ = [some (.ref p), some (.str "abcdefghijklmnopqrstuvwxyz"), some (.ref d), t, u, v]) ∧ But [p] H H' ∧ PlAt H' p (c + 10 * i) ∧ ∃ (kvs : List (Key × V)) (ns : List Str), H' d = some (.dK kvs) ∧ kvs.map (·.1) = ns.map Sum.inr ∧ (∀ x ∈ ns, GName x) ∧ ns.length ≤ i ∧ (1 ≤ i → 1 ≤ ns.length)) ?_ ?_ ?_
  · exact ⟨⟨none, none, none, rfl⟩, B0, pl0, [], [], e0, rfl, by simp, Nat.le_refl _, fun z => by omega⟩
  · intro i σ H' hi hP
    obtain ⟨⟨t, u, v, rfl⟩, B, pl, kvs, ns, ed, hk, hg, hl, _⟩ := hP
    have hi : i < 7 := hi
    walk_at "vs"
    intro pz hpz
    have npz : pz ∉ [p] := fun z => pl.ne hpz (by simpa using z)
    have hpz0 := but_none B hpz npz
    have S1 := same_new (.lst [V.int 2, V.int 26]) hpz
    have B1 : But [p] H (upd H' pz (.lst [V.int 2, V.int 26])) := B.upd _ hpz0
    have e1 : upd H' pz (.lst [V.int 2, V.int 26]) pz = some (.lst [V.int 2, V.int 26]) := upd_same
    have pl1 := pl.same S1
    have ed1 := S1 _ _ ed
    generalize upd H' pz (.lst [V.int 2, V.int 26]) = H1 at *
    walk_at "vs"
    intro n2 H2 n20 n21 b2 pl2
    have B2 := B1.trans b2
    have e2 := b2 _ _ npz e1
    have ed2 := b2 _ _ ndp ed1
    obtain ⟨wi, hw, hw0, hw1⟩ : ∃ wi : Int, atI [V.int 2, V.int 26] n2 = some (.int wi) ∧ 0 < wi ∧ wi ≤ 26 := by
      have : n2 = 0 ∨ n2 = 1 := by omega
      rcases this with rfl | rfl
      · exact ⟨2, rfl, by omega, by omega⟩
      · exact ⟨26, rfl, by omega, by omega⟩
    have hwl : wi.natAbs.log2 < 9000 := Nat.lt_of_le_of_lt (Nat.log2_le_self _) (by omega)
    walk_at "vs"
    intro D hD
    have nD : D ∉ [p] := fun z => pl2.ne hD (by simpa using z)
    have nDp : D ≠ p := by simpa using nD
    have nDd : D ≠ d := fun z => by rw [z, ed2] at hD; cases hD
    have hD0 := but_none B2 hD nD
    refine comp_range (fun j σ' H' => (∃ t, σ' = t :: [some (.str "abcdefghijklmnopqrstuvwxyz"), some (.ref p), some (.int wi)]) ∧ ∃ ts : List Str, H' D = some (.lst (ts.map V.str)) ∧ ts.length = j ∧ (∀ x ∈ ts, OneLow x) ∧ But [p] H H' ∧ PlAt H' p (c + 10 * i + 1 + j) ∧ H' d = some (.dK kvs)) ?_ ?_ ?_
    · exact ⟨⟨none, rfl⟩, [], upd_same, rfl, by simp, B2.upd _ hD0, pl2.same (same_new _ hD), (same_new _ hD) _ _ ed2⟩
    · intro j σ' H3 hj hP
      obtain ⟨⟨t, rfl⟩, ts, e, et, ho, hb, hpl, ed3⟩ := hP
      have hj : j < 8 := hj
      walk_at "vs"
      intro n4 H4 n40 n41 b4 pl4
      have hb4 := hb.trans b4
      have e4 := b4 _ _ nD e
      have ed4 := b4 _ _ ndp ed3
      obtain ⟨ch, hch, lo⟩ := letter n40 (show n4 < 26 by omega)
      have hz : (ts.map V.str).length < sizeLine := by rw [List.length_map]; exact small1000 (by omega)
      walk_at "vs"
      refine ⟨⟨_, rfl⟩, ts ++ [⟨#[ch]⟩], ?_, by rw [List.length_append, et]; rfl, ?_, hb4.upd _ hD0, pl4.keep (But.set _ (by simp)) (S := [D]) (by simpa using Ne.symm nDp), (upd_ne (Ne.symm nDd)).trans ed4⟩
      · rw [List.map_append]; exact upd_same
      · intro x hx
        rcases List.mem_append.mp hx with z | z
        · exact ho x z
        · have : x = ⟨#[ch]⟩ := by simpa using z
          exact ⟨ch, this, lo⟩
    · intro σ' H3 hP
      obtain ⟨_, ts, e, et, ho, hb, hpl, ed3⟩ := hP
      have et : ts.length = 8 := et
      have hjo : JoinOk "" ts = true := joinOk (k := 1) (fun x hx => by obtain ⟨c', rfl, _⟩ := ho x hx; exact Nat.le_refl _) (by
        have : ("" : Str).length = 0 := by decide +kernel
        rw [this]; omega)
      have gw := join_name ho (by omega) (by omega)
      have lw := join_len ho
      walk_at "vs"
      generalize Txt.join "" ts = word at *
      have hkl : kvs.length < sizeLine := by
        have := congrArg List.length hk
        rw [List.length_map, List.length_map] at this
        exact small1000 (by omega)
      walk_at "vs"
      intro n5 H5 n50 n51 b5 pl5
      have ed5 := b5 _ _ ndp ed3
      have hwz : word.length ≤ sizeLine := Nat.le_of_lt (small1000 (by omega))
      walk_at "vs"
      obtain ⟨ms, hms, hgm, hm1, hm2⟩ := nms_put hk hg (name_to gw n50 (by omega)) (.bl true)
      have hd0 : H d = none := hd
      exact ⟨DPut.k (k := .inr _) ed5 hkl, ⟨_, _, _, rfl⟩, (hb.trans b5).upd _ hd0, (pl5.keep (But.set _ (by simp)) (S := [d]) (by simpa using fun z : p = d => ndp (by simp [z]))).mono (by omega), _, ms, upd_same, hms, hgm, by omega, fun _ => hm1⟩
  · intro σ H' hP
    obtain ⟨⟨t, u, v, rfl⟩, B, pl, kvs, ns, ed, hk, hg, hl, hl1⟩ := hP
    walk_at "vs"
    intro l hl'
    rw [keys_list hk]
    have S1 := same_new (.lst (ns.map V.str)) hl'
    have nlp : l ∉ [p] := fun z => pl.ne hl' (by simpa using z)
    have hl0 := but_none B hl' nlp
    exact q l ns _ (B.upd _ hl0) ((pl.same S1).mono (by show c + 10 * 7 ≤ _; omega)) hl0 upd_same (hl1 (by decide)) hl hg
end

section
local macro_rules | `(tactic| walk_at "side") => `(tactic| first | exact st_left (by assumption) | exact st_had (by assumption) | exact st_due (by assumption) | exact st_wrong (by assumption) | exact st_put_due (by assumption) _ | exact st_put_wrong (by assumption) _)
variable {P : Program} {w : World} {K : PySem.W.Frag} {mg : Str → Option Value} {base : Heap}
noncomputable abbrev s_law_look : Stmt := top 21
theorem sc_law_look : FnScope ["name", "state", "read", "number"] ["name", "state"] (defScope s_law_look) := ⟨rfl, rfl, rfl, by decide +kernel, rfl, by decide +kernel, by decide +kernel⟩
theorem vo_law_look_name : VarOk (defScope s_law_look) "name" := by decide +kernel
theorem vo_law_look_state : VarOk (defScope s_law_look) "state" := by decide +kernel
theorem lo_law_look_number : Loc (defScope s_law_look) "number" := by decide +kernel
theorem lo_law_look_read : Loc (defScope s_law_look) "read" := by decide +kernel
theorem vo_law_look_read : VarOk (defScope s_law_look) "read" := by decide +kernel
theorem vo_law_look_number : VarOk (defScope s_law_look) "number" := by decide +kernel
theorem ok_law_look {f : Addr} {fd : FuncData} (T_law_look : FnT K mg "_law_look" s_law_look ["name", "state"] f fd) (T : Blt mg) : FnOk P w K mg base CX0 1 f fd ["name", "state"] spLook := by
  refine T_law_look.F.okQ sc_law_look (fun vs H Q E h => ?_) (fun cdv A outer s0 H vs Q E hr h => ?_)
  · obtain ⟨x, s, l, h, kn, ps, rfl, _⟩ := h
    rfl
  obtain ⟨x, s, l, h, kn, ps, rfl, sa, q⟩ := h
  have es := sa.e
  obtain ⟨as, el, hRs⟩ := sa.el
  obtain ⟨kvs, eh, hkn, hlen⟩ := sa.eh
  have dg : DGet H h (.str x) (valV kvs (.inr x)) := DGet.k (k := .inr x) eh
  rw [hkn x] at dg
  refine ⟨_, (qss_cons (qs_if (qt_din (hu_of hr) (qe_var 0 vo_law_look_name) (qe_dget (hu_of hr) (qe_var 1 vo_law_look_state) qe_str)) (qss_one (qs_ret (qe_dget (hu_of hr) (qe_dget (hu_of hr) (qe_var 1 vo_law_look_state) qe_str) (qe_var 0 vo_law_look_name)))) qss_nil)
    (qss_cons (qs_if (qt_cmp (qop_eqNil hr.units) (qe_dget (hu_of hr) (qe_var 1 vo_law_look_state) qe_str) (qe_lst qa_nil) (nomarkQ _)) (qss_cons (qs_dput (hu_of hr) (qe_var 1 vo_law_look_state) qe_str (qe_tup (qa_C qe_str (qa_N (qe_var 0 vo_law_look_name) qa_nil))))
    (qss_one (qs_ret qe_non))) qss_nil)
    (qss_cons (qs_asg (qe_bm PySem.F.plainAttrs_list PySem.F.slot_list_pop PySem.F.type_list_pop qmt_popAt (qe_dget (hu_of hr) (qe_var 1 vo_law_look_state) qe_str) (qa_C qe_int qa_nil)) (qg_tup rfl (qgs_cons (qg_name (i := 2) sc_law_look.nd rfl lo_law_look_read) (qgs_cons (qg_name (i := 3) sc_law_look.nd rfl lo_law_look_number) qgs_nil))))
    (qss_cons (qs_if (qt_cmp qop_ne (qe_var 2 vo_law_look_read) (qe_var 0 vo_law_look_name) (nomarkQ _)) (qss_cons (qs_dput (hu_of hr) (qe_var 1 vo_law_look_state) qe_str qe_non)
    (qss_cons (qs_dput (hu_of hr) (qe_var 1 vo_law_look_state) qe_str qe_bl)
    (qss_one (qs_ret qe_non)))) qss_nil)
    (qss_cons (qs_dput (hu_of hr) (qe_dget (hu_of hr) (qe_var 1 vo_law_look_state) qe_str) (qe_var 0 vo_law_look_name) (qe_var 3 vo_law_look_number))
    (qss_one (qs_ret (qe_var 3 vo_law_look_number)))))))), ?_⟩
  unfold lookG at q
  cases ek : kn x with
  | some v =>
    rw [ek] at dg q
    have dg : DGet H h (.str x) (some (.int v)) := dg
    walk_at "vs"
    exact q H (But.refl _ _) sa
  | none =>
    rw [ek] at dg q
    have dg : DGet H h (.str x) none := dg
    walk_at "vs"
    intro pe hpe
    have S1 := same_new (.lst []) hpe
    have es1 := S1 _ _ es
    have el1 := S1 _ _ el
    have eh1 := S1 _ _ eh
    have e1 : upd H pe (.lst []) pe = some (.lst []) := upd_same
    have hRs1 := hRs.same S1
    have B1 : But [s, l, h] H (upd H pe (.lst [])) := But.of_same S1
    generalize upd H pe (.lst []) = H1 at *
    cases hRs with
    | nil =>
      walk_at "vs"
      intro pt hpt
      have S2 := same_new (.tup [.str "read", .str x]) hpt
      have es2 := S2 _ _ es1
      have e2 : upd H1 pt (.tup [.str "read", .str x]) pt = some (.tup [.str "read", .str x]) := upd_same
      have B2 := B1.trans (But.of_same (S := [s, l, h]) S2)
      generalize upd H1 pt (.tup [.str "read", .str x]) = H2 at *
      have nps : pt ≠ s := fun z => by rw [z, es2] at e2; cases e2
      walk_at "vs"
      exact q pt _ (B2.trans (But.set _ (by simp))) upd_same ((upd_ne nps).trans e2)
    | @cons a p as ps ha hRs =>
      have q : GPost s l h H Q (if p.1 = x then .val p.2 (kn.put x p.2) ps else .wrong) := q
      have nsl := sa.sl
      have nhl := sa.hl
      have nsh := sa.ne
      have hix : seqIndex? 0 (List.map V.ref (a :: as)).length = some 0 := by
        show seqIndex? 0 (as.map V.ref).length.succ = some 0
        unfold seqIndex?
        simp
      have e2 : upd H1 l (.lst ((List.map V.ref (a :: as)).eraseIdx 0)) l = some (.lst (as.map V.ref)) := upd_same
      have t2 : Tups H1 (upd H1 l (.lst ((List.map V.ref (a :: as)).eraseIdx 0))) := fun y xs z => (upd_ne (fun w => by rw [w, el1] at z; cases z)).trans z
      have B2 : But [s, l, h] H (upd H1 l (.lst ((List.map V.ref (a :: as)).eraseIdx 0))) := B1.trans (But.set _ (by simp))
      have es2 : upd H1 l (.lst ((List.map V.ref (a :: as)).eraseIdx 0)) s = some (.dK (stK l h .non (.bl false))) := (upd_ne nsl).trans es1
      have eh2 : upd H1 l (.lst ((List.map V.ref (a :: as)).eraseIdx 0)) h = some (.dK kvs) := (upd_ne nhl).trans eh1
      obtain ⟨ha1, hRs2⟩ : H1 a = some (.tup (rdV p)) ∧ IsRds H1 as ps := by cases hRs1 with | cons u v => exact ⟨u, v⟩
      have ha2 := t2 _ _ ha1
      have hRs3 := hRs2.tups t2
      have ha2 : upd H1 l (.lst ((List.map V.ref (a :: as)).eraseIdx 0)) a = some (.tup [.str p.1, .int p.2]) := ha2
      walk_at "vs"
      generalize upd H1 l (.lst ((List.map V.ref (a :: as)).eraseIdx 0)) = H2 at *
      have hkl : kvs.length < sizeLine := small1000 (by
        have : kvs.length + (ps.length + 1) ≤ 1000 := hlen
        omega)
      refine ite2 (fun c1 => ?_) (fun c1 => ?_)
      · have hne : ¬ (p.1 = x) := fun z => by
          rw [z] at c1
          simp at c1
        rw [if_neg hne] at q
        walk_at "vs"
        have es3 : upd H2 s (.dK (stK l h .non (.bl false))) s = some (.dK (stK l h .non (.bl false))) := upd_same
        walk_at "vs"
        exact q _ (B2.trans ((But.set _ (by simp)).trans (But.set _ (by simp)))) upd_same
      · have he : p.1 = x := by
          by_cases z : p.1 = x
          · exact z
          · exact absurd (by simpa using z) c1
        rw [if_pos he] at q
        have dp : DPut H2 h (.str x) (.int p.2) (upd H2 h (.dK (putK kvs (.inr x) (.int p.2)))) := DPut.k (k := .inr x) eh2 hkl
        walk_at "vs"
        have t3 : Tups H2 (upd H2 h (.dK (putK kvs (.inr x) (.int p.2)))) := fun y xs z => (upd_ne (fun w => by rw [w, eh2] at z; cases z)).trans z
        refine q _ (B2.trans (But.set _ (by simp))) ⟨(upd_ne nsh).trans es2, ⟨as, (upd_ne (Ne.symm nhl)).trans e2, hRs3.tups t3⟩, ?_, nsh⟩
        obtain ⟨kv2, k1, k2⟩ := KnAt.put (H := upd H2 h (.dK (putK kvs (.inr x) (.int p.2)))) (d := h) hkn upd_same
        rw [upd_same] at k1
        cases k1
        refine ⟨_, upd_same, k2, ?_⟩
        have h1 : (putK kvs (.inr x) (.int p.2)).length ≤ kvs.length + 1 := by
          unfold putK
          split
          · rw [List.length_map]; omega
          · rw [List.length_append]; simp
        have h2 : kvs.length + (ps.length + 1) ≤ 1000 := hlen
        omega
end
section
local macro_rules | `(tactic| walk_at "side") => `(tactic| first | exact st_left (by assumption) | exact st_had (by assumption) | exact st_due (by assumption) | exact st_wrong (by assumption) | exact st_put_due (by assumption) _ | exact st_put_wrong (by assumption) _)
variable {P : Program} {w : World} {K : PySem.W.Frag} {mg : Str → Option Value} {base : Heap}
noncomputable abbrev s_law_gone : Stmt := top 22
theorem sc_law_gone : FnScope ["r", "state", "one", "other"] ["r", "state"] (defScope s_law_gone) := ⟨rfl, rfl, rfl, by decide +kernel, rfl, by decide +kernel, by decide +kernel⟩
theorem vo_law_gone_r : VarOk (defScope s_law_gone) "r" := by decide +kernel
theorem gl_law_gone__law_look : (defScope s_law_gone).names.lookup ("_law_look" : Str) = some NameKind.globalImplicit := by decide +kernel
theorem vo_law_gone_state : VarOk (defScope s_law_gone) "state" := by decide +kernel
theorem db_law_gone__law_look : (("_law_look" : Str) == ("__debug__" : Str)) = false := by decide +kernel
theorem lo_law_gone_one : Loc (defScope s_law_gone) "one" := by decide +kernel
theorem gl_law_gone__law_gone : (defScope s_law_gone).names.lookup ("_law_gone" : Str) = some NameKind.globalImplicit := by decide +kernel
theorem db_law_gone__law_gone : (("_law_gone" : Str) == ("__debug__" : Str)) = false := by decide +kernel
theorem vo_law_gone_one : VarOk (defScope s_law_gone) "one" := by decide +kernel
theorem gl_law_gone_len : (defScope s_law_gone).names.lookup ("len" : Str) = some NameKind.globalImplicit := by decide +kernel
theorem nn_law_gone_len : ("len" : Str) ≠ "__name__" := by decide +kernel
theorem db_law_gone_len : (("len" : Str) == ("__debug__" : Str)) = false := by decide +kernel
theorem gl_law_gone_int : (defScope s_law_gone).names.lookup ("int" : Str) = some NameKind.globalImplicit := by decide +kernel
theorem nn_law_gone_int : ("int" : Str) ≠ "__name__" := by decide +kernel
theorem db_law_gone_int : (("int" : Str) == ("__debug__" : Str)) = false := by decide +kernel
theorem lo_law_gone_other : Loc (defScope s_law_gone) "other" := by decide +kernel
theorem vo_law_gone_other : VarOk (defScope s_law_gone) "other" := by decide +kernel
theorem gl_law_gone_max : (defScope s_law_gone).names.lookup ("max" : Str) = some NameKind.globalImplicit := by decide +kernel
theorem nn_law_gone_max : ("max" : Str) ≠ "__name__" := by decide +kernel
theorem db_law_gone_max : (("max" : Str) == ("__debug__" : Str)) = false := by decide +kernel
theorem step_law_gone {d : Nat} {f g0 : Addr} {fd gd0 : FuncData} (T_law_gone : FnT K mg "_law_gone" s_law_gone ["r", "state"] f fd) (T_law_look : FnT K mg "_law_look" s_law_look ["name", "state"] g0 gd0) (G_law_look : FnOk P w K mg base CX0 1 g0 gd0 ["name", "state"] spLook)
    (G_law_gone : FnOk P w K mg base CX0 (d + 2) f fd ["r", "state"] (spGone d)) (T : Blt mg) : FnOk P w K mg base CX0 (d + 3) f fd ["r", "state"] (spGone (d + 1)) := by
  refine T_law_gone.F.okQ sc_law_gone (fun vs H Q E h => ?_) (fun cdv A outer s0 H vs Q E hr h => ?_)
  · obtain ⟨a, s, l, h, r, kn, ps, rfl, _⟩ := h
    rfl
  obtain ⟨a, s, l, h, r, kn, ps, rfl, hR, hd, hs, ht, hg, hw, hk, hp, sa, q⟩ := h
  refine ⟨_, (qss_cons (qs_if (qt_cmp qop_eq (qe_ix qix_tup (qe_var 0 vo_law_gone_r) qe_int) qe_str (nomarkQ _)) (qss_one (qs_ret (qe_ix qix_tup (qe_var 0 vo_law_gone_r) qe_int))) qss_nil)
    (qss_cons (qs_if (qt_cmp qop_eq (qe_ix qix_tup (qe_var 0 vo_law_gone_r) qe_int) qe_str (nomarkQ _)) (qss_one (qs_ret (qe_call (G_law_look.mono (by omega)) hr gl_law_gone__law_look T_law_look.m T_law_look.F.kp T_law_look.b .nil pass0 (qa_S (qe_ix qix_tup (qe_var 0 vo_law_gone_r) qe_int) (qa_N (qe_var 1 vo_law_gone_state) qa_nil)) db_law_gone__law_look))) qss_nil)
    (qss_cons (qs_set (i := 2) sc_law_gone.nd rfl lo_law_gone_one (qe_call (G_law_gone.mono (by omega)) hr gl_law_gone__law_gone T_law_gone.m T_law_gone.F.kp T_law_gone.b .nil pass0 (qa_S (qe_ix qix_tup (qe_var 0 vo_law_gone_r) qe_int) (qa_N (qe_var 1 vo_law_gone_state) qa_nil)) db_law_gone__law_gone))
    (qss_cons (qs_if (qt_cmp qop_isN (qe_var 2 vo_law_gone_one) qe_non (nomarkQ _)) (qss_one (qs_ret qe_non)) qss_nil)
    (qss_cons (qs_if (qt_cmp qop_eq (qe_ix qix_tup (qe_var 0 vo_law_gone_r) qe_int) qe_str (nomarkQ _)) (qss_one (qs_ret (qe_call (G_law_look.mono (by omega)) hr gl_law_gone__law_look T_law_look.m T_law_look.F.kp T_law_look.b .nil pass0 (qa_S (qe_ix qix_tup (qe_ix qix_tup (qe_var 0 vo_law_gone_r) qe_int) (qe_op qop_mod (qe_var 2 vo_law_gone_one) (qe_callB qc_len_seq gl_law_gone_len T.b_len bt_len (qa_S (qe_ix qix_tup (qe_var 0 vo_law_gone_r) qe_int) qa_nil) nn_law_gone_len db_law_gone_len))) (qa_N (qe_var 1 vo_law_gone_state) qa_nil)) db_law_gone__law_look))) qss_nil)
    (qss_cons (qs_if (qt_cmp qop_eq (qe_ix qix_tup (qe_var 0 vo_law_gone_r) qe_int) qe_str (nomarkQ _)) (qss_one (qs_ret (qe_call (G_law_gone.mono (by omega)) hr gl_law_gone__law_gone T_law_gone.m T_law_gone.F.kp T_law_gone.b .nil pass0 (qa_S (qe_ix qix_list (qe_lst (qa_S (qe_ix qix_tup (qe_var 0 vo_law_gone_r) qe_int) (qa_S (qe_ix qix_tup (qe_var 0 vo_law_gone_r) qe_int) qa_nil))) (qe_callTy qc_intB gl_law_gone_int T.b_int bt_int (qa_K (qe_cmp qop_gt (qe_var 2 vo_law_gone_one) qe_int (nomarkQ _)) qa_nil) nn_law_gone_int db_law_gone_int)) (qa_N (qe_var 1 vo_law_gone_state) qa_nil)) db_law_gone__law_gone))) qss_nil)
    (qss_cons (qs_set (i := 3) sc_law_gone.nd rfl lo_law_gone_other (qe_call (G_law_gone.mono (by omega)) hr gl_law_gone__law_gone T_law_gone.m T_law_gone.F.kp T_law_gone.b .nil pass0 (qa_S (qe_ix qix_tup (qe_var 0 vo_law_gone_r) qe_int) (qa_N (qe_var 1 vo_law_gone_state) qa_nil)) db_law_gone__law_gone))
    (qss_cons (qs_if (qt_cmp qop_isN (qe_var 3 vo_law_gone_other) qe_non (nomarkQ _)) (qss_one (qs_ret qe_non)) qss_nil)
    (qss_one (qs_ret (qe_dget (hu_of hr) (qe_disp (qp_cons qe_str (qe_op qop_add (qe_var 2 vo_law_gone_one) (qe_var 3 vo_law_gone_other)) (qp_cons qe_str (qe_op qop_sub (qe_var 2 vo_law_gone_one) (qe_var 3 vo_law_gone_other)) (qp_cons qe_str (qe_op qop_mul (qe_var 2 vo_law_gone_one) (qe_var 3 vo_law_gone_other)) (qp_cons qe_str (qe_callB (qc_max2 rfl) gl_law_gone_max T.b_max bt_max (qa_N (qe_var 2 vo_law_gone_one) (qa_N (qe_var 3 vo_law_gone_other) qa_nil)) nn_law_gone_max db_law_gone_max) qp_nil))))) (qe_ix qix_tup (qe_var 0 vo_law_gone_r) qe_int)))))))))))), ?_⟩
  cases hR with
  | num e =>
    walk_at "vs"
    exact q H (But.refl _ _) sa
  | rd e =>
    walk_at "vs"
    exact q
  | @bin _ x y op r1 r2 e h1 h2 =>
    have hd' : max r1.depth r2.depth + 1 ≤ d + 1 := hd
    have hd1 : r1.depth ≤ d := by omega
    have hd2 : r2.depth ≤ d := by omega
    have hs1 := hs.1
    have hs2 := hs.2.1
    have ht1 := ht.1
    have ht2 := ht.2.1
    have hg1 := hg.1
    have hg2 := hg.2
    have hw' : wR r1 + wR r2 + 2 ≤ 1000 := hw
    have hw1 : wR r1 ≤ 1000 := by omega
    have hw2 : wR r2 ≤ 1000 := by omega
    simp only [gn] at q
    have hget := fun (H' : Hp) (p' : Addr) (u v : Int) (z : H' p' = some (.dK (mergeK [] (opK u v)))) => dget_op op z
    cases op
    all_goals
      walk_at "vs"
      cases ea : gn r1 kn ps with
      | due z =>
        rw [ea] at q
        intro pt H1 b1 e1 e2
        walk_at "vs"
        exact q pt H1 b1 e1 e2
      | wrong =>
        rw [ea] at q
        intro H1 b1 e1
        walk_at "vs"
        exact q H1 b1 e1
      | val u kn1 ps1 =>
        rw [ea] at q
        obtain ⟨bd1, hk1, hp1⟩ := gn_ml r1 hs1 hk hp ea
        intro H1 b1 sa1
        have t1 := sa.tups b1
        have e1 := t1 _ _ e
        have h21 := h2.tups t1
        walk_at "vs"
        simp only at q
        cases eb : gn r2 kn1 ps1 with
        | due z =>
          rw [eb] at q
          intro pt H2 b2 e1 e2
          walk_at "vs"
          exact q pt H2 (b1.trans b2) e1 e2
        | wrong =>
          rw [eb] at q
          intro H2 b2 e1
          walk_at "vs"
          exact q H2 (b1.trans b2) e1
        | val v kn2 ps2 =>
          rw [eb] at q
          intro H2 b2 sa2
          have e2 := (sa1.tups b2) _ _ e1
          have cm : CMul u v := bd1.cm hw1
          walk_at "vs"
          intro pd hpd
          walk_at "vs"
          refine ⟨opK u v, rfl, (by show 4 ≤ 15; decide), ?_⟩
          have S3 : Same H2 (upd (upd H2 pd (.dK [])) pd (.dK (mergeK [] (opK u v)))) := by rw [upd_upd]; exact same_new _ hpd
          have e3 := S3 _ _ e2
          walk_at "vs"
          refine ⟨hget _ _ u v upd_same, ?_⟩
          exact q _ (b1.trans (b2.trans (But.of_same S3))) (sa2.same S3)
  | @pick _ x y z r1 r2 r3 e h1 h2 h3 =>
    have hd' : max r1.depth (max r2.depth r3.depth) + 1 ≤ d + 1 := hd
    have hd1 : r1.depth ≤ d := by omega
    have hd2 : r2.depth ≤ d := by omega
    have hd3 : r3.depth ≤ d := by omega
    obtain ⟨hs1, hs2, hs3⟩ := hs
    obtain ⟨ht1, ht2, ht3⟩ := ht
    obtain ⟨hg1, hg2, hg3⟩ := hg
    have hw' : wR r1 + wR r2 + wR r3 + 2 ≤ 1000 := hw
    have hw1 : wR r1 ≤ 1000 := by omega
    have hw2 : wR r2 ≤ 1000 := by omega
    have hw3 : wR r3 ≤ 1000 := by omega
    simp only [gn] at q
    walk_at "vs"
    cases ea : gn r1 kn ps with
    | due z =>
      rw [ea] at q
      intro pt H1 b1 e1 e2
      walk_at "vs"
      exact q pt H1 b1 e1 e2
    | wrong =>
      rw [ea] at q
      intro H1 b1 e1
      walk_at "vs"
      exact q H1 b1 e1
    | val u kn1 ps1 =>
      rw [ea] at q
      obtain ⟨bd1, hk1, hp1⟩ := gn_ml r1 hs1 hk hp ea
      intro H1 b1 sa1
      have t1 := sa.tups b1
      have e1 := t1 _ _ e
      have h21 := h2.tups t1
      have h31 := h3.tups t1
      simp only at q
      walk_at "vs"
      intro pl hpl
      have S2 := same_new (.lst [V.ref z, V.ref y]) hpl
      have sa2 := sa1.same S2
      have B2 := b1.trans (But.of_same (S := [s, l, h]) S2)
      have e2 : upd H1 pl (.lst [V.ref z, V.ref y]) pl = some (.lst [V.ref z, V.ref y]) := upd_same
      have h22 := h21.same S2
      have h32 := h31.same S2
      generalize upd H1 pl (.lst [V.ref z, V.ref y]) = H2 at *
      have go : ∀ G, GPost s l h H Q G → GPost s l h H2 Q G := fun G g => by
        cases G with
        | val v kn ps => exact fun H' b a => g H' (B2.trans b) a
        | due x => exact fun p H' b a => g p H' (B2.trans b) a
        | wrong => exact fun H' b a => g H' (B2.trans b) a
      by_cases hu : u > 0
      · rw [if_pos hu] at q
        have hat : atI [V.ref z, V.ref y] (if decide (u > 0) = true then 1 else 0) = some (.ref y) := by rw [if_pos (decide_eq_true hu)]; rfl
        walk_at "vs"
        exact go _ q
      · rw [if_neg hu] at q
        have hat : atI [V.ref z, V.ref y] (if decide (u > 0) = true then 1 else 0) = some (.ref z) := by rw [if_neg (by rw [decide_eq_false hu]; decide)]; rfl
        walk_at "vs"
        exact go _ q
  | @cho _ x y r1 ns e h1 h2 =>
    have hd1 : r1.depth ≤ d := by
      have : r1.depth + 1 ≤ d + 1 := hd
      omega
    have hs1 : r1.Sml := hs
    obtain ⟨ht1, hn1⟩ := ht
    have hg1 := hg.1
    have hw1 : wR r1 ≤ 1000 := by
      have : wR r1 + 3 ≤ 1000 := hw
      omega
    simp only [gn] at q
    walk_at "vs"
    cases ea : gn r1 kn ps with
    | due z =>
      rw [ea] at q
      intro pt H1 b1 e1 e2
      walk_at "vs"
      exact q pt H1 b1 e1 e2
    | wrong =>
      rw [ea] at q
      intro H1 b1 e1
      walk_at "vs"
      exact q H1 b1 e1
    | val u kn1 ps1 =>
      rw [ea] at q
      obtain ⟨bd1, hk1, hp1⟩ := gn_ml r1 hs1 hk hp ea
      intro H1 b1 sa1
      have t1 := sa.tups b1
      have e1 := t1 _ _ e
      have h21 := t1 _ _ h2
      simp only at q
      obtain ⟨nm, hnm⟩ := pick_some hn1 u
      rw [hnm] at q
      have hlm : (ns.map V.str).length = ns.length := List.length_map _
      have hl0 : 0 < ((ns.map V.str).length : Int) := by rw [hlm]; omega
      have hat : atI (ns.map V.str) (u % ((ns.map V.str).length : Int)) = some (.str nm) := by
        rw [hlm]
        unfold pickN at hnm
        obtain ⟨j, ej⟩ := Int.eq_ofNat_of_zero_le (Int.emod_nonneg u (show (ns.length : Int) ≠ 0 by omega))
        rw [ej] at hnm ⊢
        exact atI_nat (by rw [List.getElem?_map]; rw [Int.toNat_natCast] at hnm; rw [hnm]; rfl)
      have go : ∀ G, GPost s l h H Q G → GPost s l h H1 Q G := fun G g => by
        cases G with
        | val v kn ps => exact fun H' b a => g H' (b1.trans b) a
        | due x => exact fun p H' b a => g p H' (b1.trans b) a
        | wrong => exact fun H' b a => g H' (b1.trans b) a
      walk_at "vs"
      exact go _ q
theorem ok_law_gone {f g0 : Addr} {fd gd0 : FuncData} (T_law_gone : FnT K mg "_law_gone" s_law_gone ["r", "state"] f fd) (T_law_look : FnT K mg "_law_look" s_law_look ["name", "state"] g0 gd0) (G_law_look : FnOk P w K mg base CX0 1 g0 gd0 ["name", "state"] spLook) (T : Blt mg) : ∀ d, FnOk P w K mg base CX0 (d + 2) f fd ["r", "state"] (spGone d)
  | 0 => never fun vs H Q E h => by
    obtain ⟨a, s, l, h, r, kn, ps, _, _, hd, _⟩ := h
    have := r.depth_pos
    omega
  | d + 1 => step_law_gone T_law_gone T_law_look G_law_look (ok_law_gone T_law_gone T_law_look G_law_look T d) T
end

section
local macro_rules | `(tactic| walk_at "side") => `(tactic| first | exact st_left (by assumption) | exact st_had (by assumption) | exact st_due (by assumption) | exact st_wrong (by assumption) | exact st_put_due (by assumption) _ | exact st_put_wrong (by assumption) _)
variable {P : Program} {w : World} {K : PySem.W.Frag} {mg : Str → Option Value} {base : Heap}
noncomputable abbrev s_law_behind : Stmt := top 23
theorem sc_law_behind : FnScope ["r", "reads", "state", "worth"] ["r", "reads"] (defScope s_law_behind) := ⟨rfl, rfl, rfl, by decide +kernel, rfl, by decide +kernel, by decide +kernel⟩
theorem lo_law_behind_state : Loc (defScope s_law_behind) "state" := by decide +kernel
theorem gl_law_behind_list : (defScope s_law_behind).names.lookup ("list" : Str) = some NameKind.globalImplicit := by decide +kernel
theorem vo_law_behind_reads : VarOk (defScope s_law_behind) "reads" := by decide +kernel
theorem nn_law_behind_list : ("list" : Str) ≠ "__name__" := by decide +kernel
theorem db_law_behind_list : (("list" : Str) == ("__debug__" : Str)) = false := by decide +kernel
theorem lo_law_behind_worth : Loc (defScope s_law_behind) "worth" := by decide +kernel
theorem gl_law_behind__law_gone : (defScope s_law_behind).names.lookup ("_law_gone" : Str) = some NameKind.globalImplicit := by decide +kernel
theorem vo_law_behind_state : VarOk (defScope s_law_behind) "state" := by decide +kernel
theorem vo_law_behind_r : VarOk (defScope s_law_behind) "r" := by decide +kernel
theorem db_law_behind__law_gone : (("_law_gone" : Str) == ("__debug__" : Str)) = false := by decide +kernel
theorem vo_law_behind_worth : VarOk (defScope s_law_behind) "worth" := by decide +kernel
theorem ok_law_behind {f g0 : Addr} {fd gd0 : FuncData} (T_law_behind : FnT K mg "_law_behind" s_law_behind ["r", "reads"] f fd) (T_law_gone : FnT K mg "_law_gone" s_law_gone ["r", "state"] g0 gd0) (G_law_gone : FnOk P w K mg base CX0 10 g0 gd0 ["r", "state"] (spGone 8)) (T : Blt mg) : FnOk P w K mg base CX0 11 f fd ["r", "reads"] spLB := by
  refine T_law_behind.F.okQ sc_law_behind (fun vs H Q E h => ?_) (fun cdv A outer s0 H vs Q E hr h => ?_)
  · obtain ⟨b, l, r, as, ps, rfl, _⟩ := h
    rfl
  obtain ⟨b, l, r, as, ps, rfl, hR, hd, hs, ht, hg, hw, el, hRs, hn, hp, q⟩ := h
  rw [gn_bh ht] at q
  refine ⟨_, (qss_cons (qs_set (i := 2) sc_law_behind.nd rfl lo_law_behind_state (qe_disp (qp_cons qe_str (qe_callTy qc_list_of gl_law_behind_list T.b_list bt_list (qa_N (qe_var 1 vo_law_behind_reads) qa_nil) nn_law_behind_list db_law_behind_list) (qp_cons qe_str qe_dnewK (qp_cons qe_str qe_non (qp_cons qe_str qe_bl qp_nil))))))
    (qss_cons (qs_set (i := 3) sc_law_behind.nd rfl lo_law_behind_worth (qe_call (G_law_gone.mono (by omega)) hr gl_law_behind__law_gone T_law_gone.m T_law_gone.F.kp T_law_gone.b .nil pass0 (qa_N (qe_var 0 vo_law_behind_r) (qa_N (qe_var 2 vo_law_behind_state) qa_nil)) db_law_behind__law_gone))
    (qss_cons (qs_if (qt_w (qw_or (qt_val (qe_dget (hu_of hr) (qe_var 2 vo_law_behind_state) qe_str)) (qw_or1 (qt_w (qw_and (qt_cmp qop_isN (qe_dget (hu_of hr) (qe_var 2 vo_law_behind_state) qe_str) qe_non (nomarkQ _)) (qw_and1 (qt_cmp (qop_neD hr.units) (qe_dget (hu_of hr) (qe_var 2 vo_law_behind_state) qe_str) (qe_lst qa_nil) (nomarkQ _)))))))) (qss_one (qs_ret qe_non)) qss_nil)
    (qss_cons (qs_if (qt_cmp qop_notN (qe_dget (hu_of hr) (qe_var 2 vo_law_behind_state) qe_str) qe_non (nomarkQ _)) (qss_one (qs_ret (qe_dget (hu_of hr) (qe_var 2 vo_law_behind_state) qe_str))) qss_nil)
    (qss_one (qs_ret (qe_tup (qa_C qe_str (qa_N (qe_var 3 vo_law_behind_worth) qa_nil))))))))), ?_⟩
  walk_at "vs"
  intro s hs0
  walk_at "vs"
  intro l2 hl2
  have nl2 : l2 ≠ s := (upd_none hl2).1
  have hl20 := (upd_none hl2).2
  walk_at "vs"
  intro h hh
  have nh2 : h ≠ l2 := (upd_none hh).1
  have nhs : h ≠ s := (upd_none (upd_none hh).2).1
  have hh0 := (upd_none (upd_none hh).2).2
  have es0 : upd (upd (upd H s (.dK [])) l2 (.lst (as.map V.ref))) h (.dK []) s = some (.dK []) := (upd_ne (Ne.symm nhs)).trans ((upd_ne (Ne.symm nl2)).trans upd_same)
  have Sm : Same H (upd (upd (upd (upd H s (.dK [])) l2 (.lst (as.map V.ref))) h (.dK [])) s (.dK (stK l2 h .non (.bl false)))) := fun p o e => by
    have n1 : p ≠ s := fun z => by rw [z, hs0] at e; cases e
    have n2 : p ≠ l2 := fun z => by rw [z, hl20] at e; cases e
    have n3 : p ≠ h := fun z => by rw [z, hh0] at e; cases e
    exact (upd_ne n1).trans ((upd_ne n3).trans ((upd_ne n2).trans ((upd_ne n1).trans e)))
  have es : upd (upd (upd (upd H s (.dK [])) l2 (.lst (as.map V.ref))) h (.dK [])) s (.dK (stK l2 h .non (.bl false))) s = some (.dK (stK l2 h .non (.bl false))) := upd_same
  have el2 : upd (upd (upd (upd H s (.dK [])) l2 (.lst (as.map V.ref))) h (.dK [])) s (.dK (stK l2 h .non (.bl false))) l2 = some (.lst (as.map V.ref)) := (upd_ne nl2).trans ((upd_ne (Ne.symm nh2)).trans upd_same)
  have eh2 : upd (upd (upd (upd H s (.dK [])) l2 (.lst (as.map V.ref))) h (.dK [])) s (.dK (stK l2 h .non (.bl false))) h = some (.dK []) := (upd_ne nhs).trans upd_same
  walk_at "vs"
  refine ⟨stK0 l2 h, rfl, (by show 4 ≤ 15; decide), ?_⟩
  rw [stK0_merge]
  generalize upd (upd (upd (upd H s (.dK [])) l2 (.lst (as.map V.ref))) h (.dK [])) s (.dK (stK l2 h .non (.bl false))) = H1 at *
  have sa : StAt H1 s l2 h kn0 ps := ⟨es, ⟨as, el2, hRs.same Sm⟩, ⟨[], eh2, fun _ => rfl, by show 0 + ps.length ≤ 1000; omega⟩, Ne.symm nhs⟩
  have R1 := hR.same Sm
  have hp' : ∀ p ∈ ps, -1000000 ≤ p.2 ∧ p.2 ≤ 1000000 := fun p h => (hp p h).2
  have km := kn0_ml
  walk_at "vs"
  have fr : ∀ p ∈ [s, l2, h], H p = none := fun p hp => by
    have z : p = s ∨ p = l2 ∨ p = h := by simpa using hp
    rcases z with z | z | z
    · rw [z]; exact hs0
    · rw [z]; exact hl20
    · rw [z]; exact hh0
  have sp := gn_spec r ht kn0 ps
  cases eg : gn r kn0 ps with
  | wrong =>
    rw [eg] at q
    intro H2 b2 es2
    walk_at "vs"
    exact q H2 (but_same Sm fr b2)
  | due x =>
    rw [eg] at q
    intro pt H2 b2 es2 et2
    walk_at "vs"
    exact q pt H2 (but_same Sm fr b2) et2
  | val v kn1 ps1 =>
    rw [eg] at q sp
    obtain ⟨us, hus, _⟩ := sp
    intro H2 b2 sa2
    have S2 := but_same Sm fr b2
    have es2 := sa2.e
    obtain ⟨as2, el2', hRs2⟩ := sa2.el
    have hg2 : ∀ p ∈ ps1, GName p.1 := fun p h => (hp p (by rw [hus]; exact List.mem_append_right _ h)).1
    walk_at "vs"
    intro pe hpe
    have S3 := same_new (.lst []) hpe
    have e3 : upd H2 pe (.lst []) pe = some (.lst []) := upd_same
    have es3 := S3 _ _ es2
    have el3 := S3 _ _ el2'
    have hRs3 := hRs2.same S3
    have S23 := S2.trans S3
    generalize upd H2 pe (.lst []) = H3 at *
    refine ⟨_, _, .lst (SqL.of el3) (rds_datVs hRs3), .lst (SqL.of e3) .nil, rds_shaped hg2, by decide, ?_⟩
    cases ps1 with
    | nil =>
      walk_at "vs"
      intro pw hpw
      exact q pw _ (S23.trans (same_new _ hpw)) upd_same
    | cons p ps1 =>
      walk_at "vs"
      exact q H3 S23
end

section
variable {P : Program} {w : World} {K : PySem.W.Frag} {mg : Str → Option Value} {base : Heap}
noncomputable abbrev s_law_all_reads : Stmt := top 24
theorem sc_law_all_reads : FnScope ["r", "numbers", "reads", "due"] ["r", "numbers"] (defScope s_law_all_reads) := ⟨rfl, rfl, rfl, by decide +kernel, rfl, by decide +kernel, by decide +kernel⟩
theorem lo_law_all_reads_reads : Loc (defScope s_law_all_reads) "reads" := by decide +kernel
theorem lo_law_all_reads_due : Loc (defScope s_law_all_reads) "due" := by decide +kernel
theorem gl_law_all_reads__law_behind : (defScope s_law_all_reads).names.lookup ("_law_behind" : Str) = some NameKind.globalImplicit := by decide +kernel
theorem vo_law_all_reads_reads : VarOk (defScope s_law_all_reads) "reads" := by decide +kernel
theorem vo_law_all_reads_r : VarOk (defScope s_law_all_reads) "r" := by decide +kernel
theorem db_law_all_reads__law_behind : (("_law_behind" : Str) == ("__debug__" : Str)) = false := by decide +kernel
theorem vo_law_all_reads_due : VarOk (defScope s_law_all_reads) "due" := by decide +kernel
theorem vo_law_all_reads_numbers : VarOk (defScope s_law_all_reads) "numbers" := by decide +kernel
theorem ok_law_all_reads {f g0 : Addr} {fd gd0 : FuncData} (T_law_all_reads : FnT K mg "_law_all_reads" s_law_all_reads ["r", "numbers"] f fd) (T_law_behind : FnT K mg "_law_behind" s_law_behind ["r", "reads"] g0 gd0) (G_law_behind : FnOk P w K mg base CX0 11 g0 gd0 ["r", "reads"] spLB) (T : Blt mg) : FnOk P w K mg base CX0 12 f fd ["r", "numbers"] spAll := by
  refine T_law_all_reads.F.okQ sc_law_all_reads (fun vs H Q E h => ?_) (fun cdv A outer s0 H vs Q E hr h => ?_)
  · obtain ⟨b, d, r, ns, rfl, _⟩ := h
    rfl
  obtain ⟨b, d, r, ns, rfl, hR, hd, ok, hw, ⟨kvs, ed, hnum⟩, hg, hn7, q⟩ := h
  obtain ⟨hgd, htm, hin, hsm⟩ := ok
  refine ⟨_, (qss_cons (qs_set (i := 2) sc_law_all_reads.nd rfl lo_law_all_reads_reads (qe_lst qa_nil))
    (qss_cons (qs_set (i := 3) sc_law_all_reads.nd rfl lo_law_all_reads_due (qe_call (G_law_behind.mono (by omega)) hr gl_law_all_reads__law_behind T_law_behind.m T_law_behind.F.kp T_law_behind.b .nil pass0 (qa_N (qe_var 0 vo_law_all_reads_r) (qa_N (qe_var 2 vo_law_all_reads_reads) qa_nil)) db_law_all_reads__law_behind))
    (qss_cons (qs_while PassesOwn.never (qt_cmp qop_eq (qe_ix qix_tup (qe_var 3 vo_law_all_reads_due) qe_int) qe_str (nomarkQ _)) (qss_cons (qs_expr (qe_bm PySem.F.plainAttrs_list PySem.F.slot_list_append PySem.F.type_list_append qmt_append (qe_var 2 vo_law_all_reads_reads) (qa_T (qe_tup (qa_S (qe_ix qix_tup (qe_var 3 vo_law_all_reads_due) qe_int) (qa_S (qe_dget (hu_of hr) (qe_var 1 vo_law_all_reads_numbers) (qe_ix qix_tup (qe_var 3 vo_law_all_reads_due) qe_int)) qa_nil))) qa_nil)))
    (qss_one (qs_set (i := 3) sc_law_all_reads.nd rfl lo_law_all_reads_due (qe_call (G_law_behind.mono (by omega)) hr gl_law_all_reads__law_behind T_law_behind.m T_law_behind.F.kp T_law_behind.b .nil pass0 (qa_N (qe_var 0 vo_law_all_reads_r) (qa_N (qe_var 2 vo_law_all_reads_reads) qa_nil)) db_law_all_reads__law_behind)))))
    (qss_one (qs_ret (qe_tup (qa_N (qe_var 2 vo_law_all_reads_reads) (qa_S (qe_ix qix_tup (qe_var 3 vo_law_all_reads_due) qe_int) qa_nil)))))))), ?_⟩
  walk_at "vs"
  intro l hl
  have S1 := same_new (.lst []) hl
  have e1 : upd H l (.lst []) l = some (.lst (([] : List Addr).map V.ref)) := upd_same
  have R1 := hR.same S1
  generalize upd H l (.lst []) = H1 at *
  have nil1 : IsRds H1 [] [] := .nil
  have nilP : ∀ p ∈ ([] : List Rdp), GName p.1 ∧ -1000000 ≤ p.2 ∧ p.2 ≤ 1000000 := by simp
  walk_at "vs"
  refine lb_some (bh_nil r kn0) fun dt H2 s2 du2 => ?_
  have e2 := s2 _ _ e1
  have S2 := S1.trans s2
  have hu0 : unk ns kn0 ≤ 7 := Nat.le_trans (unk_le _ _) hn7
  refine ⟨fun m σ H' => ∃ as ps dt y, σ = [some (.ref b), some (.ref d), some (.ref l), some (.ref dt)] ∧ Same H H' ∧ H' l = some (.lst (as.map V.ref)) ∧ IsRds H' as ps ∧ (∀ p ∈ ps, GName p.1 ∧ -1000000 ≤ p.2 ∧ p.2 ≤ 1000000) ∧ ps.length + unk ns (kn0.puts ps) ≤ 7 ∧ bh r kn0 ps = some y ∧ DueAt H' dt y ∧ m = unk ns (kn0.puts ps),
    ⟨_, [], [], dt, _, rfl, S2, e2, .nil, nilP, (by show 0 + unk ns kn0 ≤ 7; omega), rfl, du2, rfl⟩, ?_⟩
  rintro m σ H3 ⟨as, ps, dt, y, rfl, S3, e3, hRs, hp, hlen, hbh, du, rfl⟩
  have ed3 := S3 _ _ ed
  have R3 := hR.same S3
  cases y with
  | inr v =>
    have du : H3 dt = some (.tup [.str "worth", .int v]) := du
    walk_at "vs"
    intro pt hpt
    have S4 := same_new (.tup [V.ref l, V.int v]) hpt
    exact q pt l as ps v _ (S3.trans S4) hl upd_same (S4 _ _ e3) (hRs.same S4) (by omega) hp
  | inl x =>
    have du : H3 dt = some (.tup [.str "read", .str x]) := du
    have hev := (bh_some hbh).symm
    have hx := ev_in hin hev
    have hxn := ev_none hev
    obtain ⟨v, hv, hv0, hv1⟩ := hnum x hx
    have dg : DGet H3 d (.str x) (some (.int v)) := by
      rw [← hv]; exact DGet.k (k := .inr x) ed3
    have hup := unk_put (v := v) hxn hx
    generalize hU : unk ns (kn0.puts ps) = U at *
    have epp : kn0.puts (ps ++ [(x, v)]) = (kn0.puts ps).put x v := by rw [Kn.puts_app]; rfl
    walk_at "vs"
    refine (if_pos (show true = true from rfl)).mpr ?_
    refine ⟨fun σ' H' => Wr (∃ as ps dt y, σ' = [some (.ref b), some (.ref d), some (.ref l), some (.ref dt)] ∧ Same H H' ∧ H' l = some (.lst (as.map V.ref)) ∧ IsRds H' as ps ∧ (∀ p ∈ ps, GName p.1 ∧ -1000000 ≤ p.2 ∧ p.2 ≤ 1000000) ∧ ps.length + unk ns (kn0.puts ps) ≤ 7 ∧ bh r kn0 ps = some y ∧ DueAt H' dt y ∧ unk ns (kn0.puts ps) < U), ?_, ?_⟩
    · rintro σ' H' ⟨as, ps, dt, y, h1, h2, h3, h4, h5, h6, h7, h8, h9⟩
      exact ⟨_, h9, as, ps, dt, y, h1, h2, h3, h4, h5, h6, h7, h8, rfl⟩
    have hz : (as.map V.ref).length < sizeLine := by rw [List.length_map, hRs.length]; exact small1000 (by omega)
    walk_at "vs"
    intro pt hpt
    have S4 := same_new (.tup [V.str x, V.int v]) hpt
    have e4 := S4 _ _ e3
    have ept : upd H3 pt (.tup [V.str x, V.int v]) pt = some (.tup (rdV (x, v))) := upd_same
    have hRs4 := IsRds.snoc ept (hRs.same S4)
    have S34 := S3.trans S4
    generalize upd H3 pt (.tup [V.str x, V.int v]) = H4 at *
    walk_at "vs"
    have S5 : Same H (upd H4 l (.lst (as.map V.ref ++ [V.ref pt]))) := same_updN _ hl S34
    have e5 : upd H4 l (.lst (as.map V.ref ++ [V.ref pt])) l = some (.lst ((as ++ [pt]).map V.ref)) := by rw [List.map_append]; exact upd_same
    have t5 : Tups H4 (upd H4 l (.lst (as.map V.ref ++ [V.ref pt]))) := fun y xs z => (upd_ne (fun w => by rw [w, e4] at z; cases z)).trans z
    have hRs5 := hRs4.tups t5
    have R5 := hR.same S5
    generalize upd H4 l (.lst (as.map V.ref ++ [V.ref pt])) = H5 at *
    have hp5 : ∀ p ∈ ps ++ [(x, v)], GName p.1 ∧ -1000000 ≤ p.2 ∧ p.2 ≤ 1000000 := fun p h => by
      rcases List.mem_append.mp h with z | z
      · exact hp p z
      · have : p = (x, v) := by simpa using z
        rw [this]; exact ⟨hg x hx, hv0, hv1⟩
    have hl5 : (ps ++ [(x, v)]).length = ps.length + 1 := by rw [List.length_append]; rfl
    have hl100 : (ps ++ [(x, v)]).length ≤ 100 := by omega
    walk_at "vs"
    refine lb_some (bh_snoc hbh) fun dt H6 s6 du6 => ?_
    exact ⟨_, _, dt, _, rfl, S5.trans s6, s6 _ _ e5, hRs5.same s6, hp5, by rw [hl5, epp]; omega, bh_snoc hbh, du6, by rw [epp]; omega⟩
end

section
local macro_rules | `(tactic| walk_at "side") => `(tactic| first | exact ClV.own _ | exact ClV.ty _)
variable {P : Program} {w : World} {K : PySem.W.Frag} {mg : Str → Option Value} {base : Heap}
theorem nn_ValueError : ("ValueError" : Str) ≠ "__name__" := by decide +kernel
theorem datVs_bls {K : PySem.W.Frag} {H : Hp} : ∀ bs : List Bool, DatVs K H (bs.map V.bl) (bs.map PyData.bool)
  | [] => .nil
  | b :: bs => .cons (.bl b) (datVs_bls bs)
noncomputable def spKinds (CE : Addr) : Sp := fun vs H Q _ => ∃ p : Addr, vs = [.ref p, .int 0] ∧ H p = some (excO (.ref CE) p) ∧ ∀ H', Same H H' → Q (.bl true) H'
noncomputable abbrev s_law_kinds : Stmt := top 25
theorem sc_law_kinds : FnScope ["caught", "due", "kinds"] ["caught", "due"] (defScope s_law_kinds) := ⟨rfl, rfl, rfl, by decide +kernel, rfl, by decide +kernel, by decide +kernel⟩
theorem lo_law_kinds_kinds : Loc (defScope s_law_kinds) "kinds" := by decide +kernel
theorem gl_law_kinds_isinstance : (defScope s_law_kinds).names.lookup ("isinstance" : Str) = some NameKind.globalImplicit := by decide +kernel
theorem gl_law_kinds_NoText : (defScope s_law_kinds).names.lookup ("NoText" : Str) = some NameKind.globalImplicit := by decide +kernel
theorem db_law_kinds_NoText : (("NoText" : Str) == ("__debug__" : Str)) = false := by decide +kernel
theorem vo_law_kinds_caught : VarOk (defScope s_law_kinds) "caught" := by decide +kernel
theorem nn_law_kinds_isinstance : ("isinstance" : Str) ≠ "__name__" := by decide +kernel
theorem db_law_kinds_isinstance : (("isinstance" : Str) == ("__debug__" : Str)) = false := by decide +kernel
theorem gl_law_kinds_NoRecord : (defScope s_law_kinds).names.lookup ("NoRecord" : Str) = some NameKind.globalImplicit := by decide +kernel
theorem db_law_kinds_NoRecord : (("NoRecord" : Str) == ("__debug__" : Str)) = false := by decide +kernel
theorem gl_law_kinds_NoRead : (defScope s_law_kinds).names.lookup ("NoRead" : Str) = some NameKind.globalImplicit := by decide +kernel
theorem db_law_kinds_NoRead : (("NoRead" : Str) == ("__debug__" : Str)) = false := by decide +kernel
theorem vo_law_kinds_kinds : VarOk (defScope s_law_kinds) "kinds" := by decide +kernel
theorem gl_law_kinds_NoDeed : (defScope s_law_kinds).names.lookup ("NoDeed" : Str) = some NameKind.globalImplicit := by decide +kernel
theorem db_law_kinds_NoDeed : (("NoDeed" : Str) == ("__debug__" : Str)) = false := by decide +kernel
theorem gl_law_kinds_Ring : (defScope s_law_kinds).names.lookup ("Ring" : Str) = some NameKind.globalImplicit := by decide +kernel
theorem db_law_kinds_Ring : (("Ring" : Str) == ("__debug__" : Str)) = false := by decide +kernel
theorem gl_law_kinds_NoName : (defScope s_law_kinds).names.lookup ("NoName" : Str) = some NameKind.globalImplicit := by decide +kernel
theorem db_law_kinds_NoName : (("NoName" : Str) == ("__debug__" : Str)) = false := by decide +kernel
theorem gl_law_kinds_ValueError : (defScope s_law_kinds).names.lookup ("ValueError" : Str) = some NameKind.globalImplicit := by decide +kernel
theorem db_law_kinds_ValueError : (("ValueError" : Str) == ("__debug__" : Str)) = false := by decide +kernel
theorem gl_law_kinds_NoRow : (defScope s_law_kinds).names.lookup ("NoRow" : Str) = some NameKind.globalImplicit := by decide +kernel
theorem db_law_kinds_NoRow : (("NoRow" : Str) == ("__debug__" : Str)) = false := by decide +kernel
theorem gl_law_kinds_range : (defScope s_law_kinds).names.lookup ("range" : Str) = some NameKind.globalImplicit := by decide +kernel
theorem ok_law_kinds {f CT CD CN CR1 CR2 CR3 CR4 : Addr} {fd : FuncData} (T_law_kinds : FnT K mg "_law_kinds" s_law_kinds ["caught", "due"] f fd)
    (T : Blt mg) (xk : ExK K CR1) (zVE : mg "ValueError" = none) (mNoText : mg "NoText" = some (.ref CT)) (mNoDeed : mg "NoDeed" = some (.ref CD)) (mNoName : mg "NoName" = some (.ref CN))
    (mNoRead : mg "NoRead" = some (.ref CR1)) (mNoRecord : mg "NoRecord" = some (.ref CR2)) (mNoRow : mg "NoRow" = some (.ref CR3)) (mRing : mg "Ring" = some (.ref CR4))
    (x2 : PySem.W.kitOne K (.ref CR1) (.ref CR1) = some true) (x3 : PySem.W.kitOne K (.ref CR1) (.type "ValueError") = some true)
    (x4 : PySem.W.kitOne K (.ref CR1) (.ref CN) = some false) (x5 : PySem.W.kitOne K (.ref CR1) (.ref CR4) = some false) (x6 : PySem.W.kitOne K (.ref CR1) (.ref CT) = some false)
    (x7 : PySem.W.kitOne K (.ref CR1) (.ref CR3) = some false) (x8 : PySem.W.kitOne K (.ref CR1) (.ref CR2) = some false) (x9 : PySem.W.kitOne K (.ref CR1) (.ref CD) = some false) : FnOk P w K mg base CX0 1 f fd ["caught", "due"] (spKinds CR1) := by
  refine T_law_kinds.F.okQ sc_law_kinds (fun vs H Q E h => ?_) (fun cdv A outer s0 H vs Q E hr h => ?_)
  · obtain ⟨p, rfl, _⟩ := h
    rfl
  obtain ⟨p, rfl, ep, q⟩ := h
  refine ⟨_, (qss_cons (qs_set (i := 2) sc_law_kinds.nd rfl lo_law_kinds_kinds (qe_lst (qa_F (qe_callB qc_isiE gl_law_kinds_isinstance T.b_isinstance bt_isinstance (qa_N (qe_var 0 vo_law_kinds_caught) (qa_N (qe_glob (v := .ref CR1) gl_law_kinds_NoRead mNoRead rfl db_law_kinds_NoRead) qa_nil)) nn_law_kinds_isinstance db_law_kinds_isinstance) (qa_F (qe_callB qc_isiE gl_law_kinds_isinstance T.b_isinstance bt_isinstance (qa_N (qe_var 0 vo_law_kinds_caught) (qa_N (qe_glob (v := .ref CR2) gl_law_kinds_NoRecord mNoRecord rfl db_law_kinds_NoRecord) qa_nil)) nn_law_kinds_isinstance db_law_kinds_isinstance) (qa_F (qe_callB qc_isiE gl_law_kinds_isinstance T.b_isinstance bt_isinstance (qa_N (qe_var 0 vo_law_kinds_caught) (qa_N (qe_glob (v := .ref CT) gl_law_kinds_NoText mNoText rfl db_law_kinds_NoText) qa_nil)) nn_law_kinds_isinstance db_law_kinds_isinstance) qa_nil)))))
    (qss_cons (qs_set (i := 2) sc_law_kinds.nd rfl lo_law_kinds_kinds (qe_op qop_cat (qe_var 2 vo_law_kinds_kinds) (qe_lst (qa_F (qe_callB qc_isiE gl_law_kinds_isinstance T.b_isinstance bt_isinstance (qa_N (qe_var 0 vo_law_kinds_caught) (qa_N (qe_glob (v := .ref CN) gl_law_kinds_NoName mNoName rfl db_law_kinds_NoName) qa_nil)) nn_law_kinds_isinstance db_law_kinds_isinstance) (qa_F (qe_callB qc_isiE gl_law_kinds_isinstance T.b_isinstance bt_isinstance (qa_N (qe_var 0 vo_law_kinds_caught) (qa_N (qe_glob (v := .ref CR4) gl_law_kinds_Ring mRing rfl db_law_kinds_Ring) qa_nil)) nn_law_kinds_isinstance db_law_kinds_isinstance) (qa_F (qe_callB qc_isiE gl_law_kinds_isinstance T.b_isinstance bt_isinstance (qa_N (qe_var 0 vo_law_kinds_caught) (qa_N (qe_glob (v := .ref CD) gl_law_kinds_NoDeed mNoDeed rfl db_law_kinds_NoDeed) qa_nil)) nn_law_kinds_isinstance db_law_kinds_isinstance) qa_nil))))))
    (qss_cons (qs_set (i := 2) sc_law_kinds.nd rfl lo_law_kinds_kinds (qe_op qop_cat (qe_var 2 vo_law_kinds_kinds) (qe_lst (qa_F (qe_callB qc_isiE gl_law_kinds_isinstance T.b_isinstance bt_isinstance (qa_N (qe_var 0 vo_law_kinds_caught) (qa_N (qe_glob (v := .ref CR3) gl_law_kinds_NoRow mNoRow rfl db_law_kinds_NoRow) qa_nil)) nn_law_kinds_isinstance db_law_kinds_isinstance) (qa_U (qe_not (qe_callB qc_isiE gl_law_kinds_isinstance T.b_isinstance bt_isinstance (qa_N (qe_var 0 vo_law_kinds_caught) (qa_N (qe_bltn (v := .ty "ValueError") gl_law_kinds_ValueError zVE bt_ValueError rfl nn_ValueError db_law_kinds_ValueError) qa_nil)) nn_law_kinds_isinstance db_law_kinds_isinstance)) qa_nil)))))
    (qss_one (qs_ret (qe_and (qe_cmp qop_notN (qe_var 0 vo_law_kinds_caught) qe_non (nomarkQ _)) (qe_one (qe_cmp (qop_eqSame hr.units) (qe_var 2 vo_law_kinds_kinds) (qe_comp rfl (n := 1) (fr := [1]) (N := ["k", "due"]) (cs_mk (scX := defScope s_law_kinds) (NX := ["caught", "due", "kinds"]) rfl rfl (by decide +kernel)) (qi_range1 gl_law_kinds_range T.b_range (qa_C qe_int qa_nil)) (fun _ _ _ _ _ => (qgx (i := 0) (show List.Nodup (α := Str) ["k", "due"] by decide) (locC (by decide +kernel)))) (fun _ _ _ _ _ => qi_nil) (fun _ _ _ _ _ => (qe_cmp qop_eq (qe_var 0 (VarC.ok (by decide +kernel))) (qe_var 1 (VarC.ok (by decide +kernel))) (nomarkQ _)))) (nomarkQ _))))))))), ?_⟩
  walk_at "vs"
  intro p1 hp1
  have s1 := same_new (.lst [V.bl true, V.bl false, V.bl false]) hp1
  have e1 : upd H p1 (.lst [V.bl true, V.bl false, V.bl false]) p1 = some (.lst [V.bl true, V.bl false, V.bl false]) := upd_same
  have ep1 := s1 _ _ ep
  generalize upd H p1 (.lst [V.bl true, V.bl false, V.bl false]) = H1 at *
  walk_at "vs"
  intro p2 hp2
  have s2 := same_new (.lst [V.bl false, V.bl false, V.bl false]) hp2
  have e2 : upd H1 p2 (.lst [V.bl false, V.bl false, V.bl false]) p2 = some (.lst [V.bl false, V.bl false, V.bl false]) := upd_same
  have e12 := s2 _ _ e1
  have ep2 := s2 _ _ ep1
  generalize upd H1 p2 (.lst [V.bl false, V.bl false, V.bl false]) = H2 at *
  walk_at "vs"
  intro p3 hp3
  have s3 := same_new (.lst (([true, false, false, false, false, false] : List Bool).map V.bl)) hp3
  have e3 : upd H2 p3 (.lst (([true, false, false, false, false, false] : List Bool).map V.bl)) p3 = some (.lst [V.bl true, V.bl false, V.bl false, V.bl false, V.bl false, V.bl false]) := upd_same
  have ep3 := s3 _ _ ep2
  rw [show [V.bl true, V.bl false, V.bl false] ++ [V.bl false, V.bl false, V.bl false] = ([true, false, false, false, false, false] : List Bool).map V.bl from rfl]
  generalize upd H2 p3 (.lst (([true, false, false, false, false, false] : List Bool).map V.bl)) = H3 at *
  walk_at "vs"
  intro p4 hp4
  have s4 := same_new (.lst [V.bl false, V.bl (!true)]) hp4
  have e4 : upd H3 p4 (.lst [V.bl false, V.bl (!true)]) p4 = some (.lst [V.bl false, V.bl false]) := upd_same
  have e34 := s4 _ _ e3
  have ep4 := s4 _ _ ep3
  generalize upd H3 p4 (.lst [V.bl false, V.bl (!true)]) = H4 at *
  walk_at "vs"
  intro p5 hp5
  have s5 := same_new (.lst (([true, false, false, false, false, false, false, false] : List Bool).map V.bl)) hp5
  have e5 : upd H4 p5 (.lst (([true, false, false, false, false, false, false, false] : List Bool).map V.bl)) p5 = some (.lst (([true, false, false, false, false, false, false, false] : List Bool).map V.bl)) := upd_same
  rw [show [V.bl true, V.bl false, V.bl false, V.bl false, V.bl false, V.bl false] ++ [V.bl false, V.bl false] = ([true, false, false, false, false, false, false, false] : List Bool).map V.bl from rfl]
  generalize upd H4 p5 (.lst (([true, false, false, false, false, false, false, false] : List Bool).map V.bl)) = H5 at *
  walk_at "vs"
  intro D hD
  refine comp_range (fun i σ' H' => (∃ t, σ' = [t, some (.int 0)]) ∧ Same H5 H' ∧ H' D = some (.lst (((List.range i).map fun k => decide (k = 0)).map V.bl))) ?_ ?_ ?_
  · exact ⟨⟨none, rfl⟩, same_new _ hD, upd_same⟩
  · intro i σ' H' hi hP
    obtain ⟨⟨t, rfl⟩, hs, eD⟩ := hP
    have hi' : i < 8 := hi
    have hz : (((List.range i).map fun k => decide (k = 0)).map V.bl).length < sizeLine := by
      rw [List.length_map, List.length_map, List.length_range]; exact small1000 (by omega)
    walk_at "vs"
    refine ⟨⟨_, rfl⟩, same_updN _ hD hs, ?_⟩
    have ei : decide (V.int (0 + (i : Int)) = V.int 0) = decide (i = 0) := by
      by_cases h : i = 0
      · rw [decide_eq_true h, decide_eq_true (by rw [h]; rfl)]
      · rw [decide_eq_false h, decide_eq_false (fun z => h (by have := V.int.inj z; omega))]
    rw [upd_same, ei, List.range_succ, List.map_append, List.map_append]; rfl
  · intro σ' H' hP
    obtain ⟨_, hs, eD⟩ := hP
    have eD : H' D = some (.lst (([true, false, false, false, false, false, false, false] : List Bool).map V.bl)) := eD
    refine ⟨_, .lst (SqL.of (hs _ _ e5)) (datVs_bls _), .lst (SqL.of eD) (datVs_bls _), by decide +kernel, ?_⟩
    exact q _ (s1.trans (s2.trans (s3.trans (s4.trans (s5.trans hs)))))
end

section
variable {P : Program} {w : World} {K : PySem.W.Frag} {mg : Str → Option Value} {base : Heap}
noncomputable abbrev s_law_spoilt : Stmt := top 26
theorem sc_law_spoilt : FnScope ["reads", "names", "pool", "at", "to", "other", "way"] ["reads", "names", "pool"] (defScope s_law_spoilt) := ⟨rfl, rfl, rfl, by decide +kernel, rfl, by decide +kernel, by decide +kernel⟩
theorem lo_law_spoilt_at : Loc (defScope s_law_spoilt) "at" := by decide +kernel
theorem gl_law_spoilt__law_take : (defScope s_law_spoilt).names.lookup ("_law_take" : Str) = some NameKind.globalImplicit := by decide +kernel
theorem gl_law_spoilt_len : (defScope s_law_spoilt).names.lookup ("len" : Str) = some NameKind.globalImplicit := by decide +kernel
theorem vo_law_spoilt_reads : VarOk (defScope s_law_spoilt) "reads" := by decide +kernel
theorem nn_law_spoilt_len : ("len" : Str) ≠ "__name__" := by decide +kernel
theorem db_law_spoilt_len : (("len" : Str) == ("__debug__" : Str)) = false := by decide +kernel
theorem vo_law_spoilt_pool : VarOk (defScope s_law_spoilt) "pool" := by decide +kernel
theorem db_law_spoilt__law_take : (("_law_take" : Str) == ("__debug__" : Str)) = false := by decide +kernel
theorem lo_law_spoilt_to : Loc (defScope s_law_spoilt) "to" := by decide +kernel
theorem lo_law_spoilt_other : Loc (defScope s_law_spoilt) "other" := by decide +kernel
theorem vo_law_spoilt_names : VarOk (defScope s_law_spoilt) "names" := by decide +kernel
theorem lo_law_spoilt_way : Loc (defScope s_law_spoilt) "way" := by decide +kernel
theorem vo_law_spoilt_way : VarOk (defScope s_law_spoilt) "way" := by decide +kernel
theorem vo_law_spoilt_at : VarOk (defScope s_law_spoilt) "at" := by decide +kernel
theorem vo_law_spoilt_other : VarOk (defScope s_law_spoilt) "other" := by decide +kernel
theorem vo_law_spoilt_to : VarOk (defScope s_law_spoilt) "to" := by decide +kernel
theorem ok_law_spoilt {f g0 : Addr} {fd gd0 : FuncData} (T_law_spoilt : FnT K mg "_law_spoilt" s_law_spoilt ["reads", "names", "pool"] f fd) (T_law_take : FnT K mg "_law_take" s_law_take ["pool", "many"] g0 gd0) (G_law_take : FnOk P w K mg base CX0 1 g0 gd0 ["pool", "many"] spTk) (T : Blt mg) : FnOk P w K mg base CX0 2 f fd ["reads", "names", "pool"] spSpl := by
  refine T_law_spoilt.F.okQ sc_law_spoilt (fun vs H Q E h => ?_) (fun cdv A outer s0 H vs Q E hr h => ?_)
  · obtain ⟨l, nl, p, ns, c, rfl, _⟩ := h
    rfl
  obtain ⟨l, nl, p, ns, c, rfl, rl, en, hn1, hn7, hg, hp, hc, q⟩ := h
  obtain ⟨xs, el, rx⟩ := rl
  have hxl := rx.len
  have nlp : l ∉ [p] := fun z => by
    obtain ⟨a, m, k, e, _⟩ := hp
    have : l = p := by simpa using z
    rw [this, e] at el
    have e2 := HO.lst.inj (Option.some.inj el)
    obtain ⟨as, ps, rfl, _⟩ := rx
    cases as with
    | nil => cases e2
    | cons b bs => cases e2
  have nnp : nl ∉ [p] := fun z => by
    obtain ⟨a, m, k, e, _⟩ := hp
    have : nl = p := by simpa using z
    rw [this, e] at en
    have e2 := HO.lst.inj (Option.some.inj en)
    cases ns with
    | nil => cases e2
    | cons b bs => cases e2
  have hlg : ((xs.length : Int) + 1).natAbs.log2 < 9000 := Nat.lt_of_le_of_lt (Nat.log2_le_self _) (by omega)
  have hlm : (ns.map V.str).length = ns.length := List.length_map _
  have hl0 : 0 < ((ns.map V.str).length : Int) := by rw [hlm]; omega
  have hlog : ((ns.map V.str).length : Int).natAbs.log2 < 9000 := by
    rw [hlm]
    exact Nat.lt_of_le_of_lt (Nat.log2_le_self _) (by omega)
  refine ⟨_, (qss_cons (qs_set (i := 3) sc_law_spoilt.nd rfl lo_law_spoilt_at (qe_call (G_law_take.mono (by omega)) hr gl_law_spoilt__law_take T_law_take.m T_law_take.F.kp T_law_take.b .nil pass0 (qa_N (qe_var 2 vo_law_spoilt_pool) (qa_B (qe_op qop_add (qe_callB qc_len_seq gl_law_spoilt_len T.b_len bt_len (qa_N (qe_var 0 vo_law_spoilt_reads) qa_nil) nn_law_spoilt_len db_law_spoilt_len) qe_int) qa_nil)) db_law_spoilt__law_take))
    (qss_cons (qs_set (i := 4) sc_law_spoilt.nd rfl lo_law_spoilt_to (qe_call (G_law_take.mono (by omega)) hr gl_law_spoilt__law_take T_law_take.m T_law_take.F.kp T_law_take.b .nil pass0 (qa_N (qe_var 2 vo_law_spoilt_pool) (qa_B (qe_op qop_add (qe_callB qc_len_seq gl_law_spoilt_len T.b_len bt_len (qa_N (qe_var 0 vo_law_spoilt_reads) qa_nil) nn_law_spoilt_len db_law_spoilt_len) qe_int) qa_nil)) db_law_spoilt__law_take))
    (qss_cons (qs_set (i := 5) sc_law_spoilt.nd rfl lo_law_spoilt_other (qe_tup (qa_S (qe_ix qix_list (qe_var 1 vo_law_spoilt_names) (qe_call (G_law_take.mono (by omega)) hr gl_law_spoilt__law_take T_law_take.m T_law_take.F.kp T_law_take.b .nil pass0 (qa_N (qe_var 2 vo_law_spoilt_pool) (qa_F (qe_callB qc_len_seq gl_law_spoilt_len T.b_len bt_len (qa_N (qe_var 1 vo_law_spoilt_names) qa_nil) nn_law_spoilt_len db_law_spoilt_len) qa_nil)) db_law_spoilt__law_take)) (qa_B (qe_op qop_sub (qe_call (G_law_take.mono (by omega)) hr gl_law_spoilt__law_take T_law_take.m T_law_take.F.kp T_law_take.b .nil pass0 (qa_N (qe_var 2 vo_law_spoilt_pool) (qa_C qe_int qa_nil)) db_law_spoilt__law_take) qe_int) qa_nil))))
    (qss_cons (qs_set (i := 6) sc_law_spoilt.nd rfl lo_law_spoilt_way (qe_call (G_law_take.mono (by omega)) hr gl_law_spoilt__law_take T_law_take.m T_law_take.F.kp T_law_take.b .nil pass0 (qa_N (qe_var 2 vo_law_spoilt_pool) (qa_C qe_int qa_nil)) db_law_spoilt__law_take))
    (qss_cons (qs_if (qt_cmp qop_eq (qe_var 6 vo_law_spoilt_way) qe_int (nomarkQ _)) (qss_one (qs_ret (qe_op qop_cat (qe_op qop_cat (qe_slice qsl_list (qe_var 0 vo_law_spoilt_reads) qo_none (qo_some (qe_var 3 vo_law_spoilt_at))) (qe_lst (qa_N (qe_var 5 vo_law_spoilt_other) qa_nil))) (qe_slice qsl_list (qe_var 0 vo_law_spoilt_reads) (qo_some (qe_var 3 vo_law_spoilt_at)) qo_none)))) qss_nil)
    (qss_cons (qs_if (qt_cmp qop_eq (qe_var 6 vo_law_spoilt_way) qe_int (nomarkQ _)) (qss_one (qs_ret (qe_op qop_cat (qe_op qop_cat (qe_slice qsl_list (qe_var 0 vo_law_spoilt_reads) qo_none (qo_some (qe_var 3 vo_law_spoilt_at))) (qe_lst (qa_N (qe_var 5 vo_law_spoilt_other) qa_nil))) (qe_slice qsl_list (qe_var 0 vo_law_spoilt_reads) (qo_some (qe_op qop_add (qe_var 3 vo_law_spoilt_at) qe_int)) qo_none)))) qss_nil)
    (qss_cons (qs_if (qt_cmp qop_eq (qe_var 6 vo_law_spoilt_way) qe_int (nomarkQ _)) (qss_one (qs_ret (qe_op qop_cat (qe_slice qsl_list (qe_var 0 vo_law_spoilt_reads) qo_none (qo_some (qe_var 3 vo_law_spoilt_at))) (qe_slice qsl_list (qe_var 0 vo_law_spoilt_reads) (qo_some (qe_op qop_add (qe_var 3 vo_law_spoilt_at) qe_int)) qo_none)))) qss_nil)
    (qss_cons (qs_if (qt_cmp qop_eq (qe_var 6 vo_law_spoilt_way) qe_int (nomarkQ _)) (qss_one (qs_ret (qe_op qop_cat (qe_op qop_cat (qe_slice qsl_list (qe_var 0 vo_law_spoilt_reads) qo_none (qo_some (qe_var 3 vo_law_spoilt_at))) (qe_slice qsl_list (qe_var 0 vo_law_spoilt_reads) (qo_some (qe_var 3 vo_law_spoilt_at)) (qo_some (qe_op qop_add (qe_var 3 vo_law_spoilt_at) qe_int)))) (qe_slice qsl_list (qe_var 0 vo_law_spoilt_reads) (qo_some (qe_var 3 vo_law_spoilt_at)) qo_none)))) qss_nil)
    (qss_cons (qs_if (qt_cmp qop_eq (qe_var 6 vo_law_spoilt_way) qe_int (nomarkQ _)) (qss_one (qs_ret (qe_op qop_cat (qe_op qop_cat (qe_slice qsl_list (qe_var 0 vo_law_spoilt_reads) qo_none (qo_some (qe_var 3 vo_law_spoilt_at))) (qe_comp rfl (n := 2) (fr := [5]) (N := ["name", "number", "other"]) (cs_mk (scX := defScope s_law_spoilt) (NX := ["reads", "names", "pool", "at", "to", "other", "way"]) rfl rfl (by decide +kernel)) (qi_list (qe_slice qsl_list (qe_var 0 vo_law_spoilt_reads) (qo_some (qe_var 3 vo_law_spoilt_at)) (qo_some (qe_op qop_add (qe_var 3 vo_law_spoilt_at) qe_int)))) (fun _ _ _ _ _ => (qg_tupK (K := K) (n := 2) rfl rfl (qgs_cons (qgx (i := 0) (show List.Nodup (α := Str) ["name", "number", "other"] by decide) (locC (by decide +kernel))) (qgs_cons (qgx (i := 1) (show List.Nodup (α := Str) ["name", "number", "other"] by decide) (locC (by decide +kernel))) qgs_nil)))) (fun _ _ _ _ _ => qi_nil) (fun _ _ _ _ _ => (qe_tup (qa_N (qe_var 0 (VarC.ok (by decide +kernel))) (qa_S (qe_ix (qix_tupK (K := K) rfl) (qe_var 2 (VarC.ok (by decide +kernel))) qe_int) qa_nil)))))) (qe_slice qsl_list (qe_var 0 vo_law_spoilt_reads) (qo_some (qe_op qop_add (qe_var 3 vo_law_spoilt_at) qe_int)) qo_none)))) qss_nil)
    (qss_cons (qs_if (qt_cmp qop_eq (qe_var 6 vo_law_spoilt_way) qe_int (nomarkQ _)) (qss_one (qs_ret (qe_op qop_cat (qe_op qop_cat (qe_slice qsl_list (qe_var 0 vo_law_spoilt_reads) qo_none (qo_some (qe_var 3 vo_law_spoilt_at))) (qe_slice qsl_list (qe_var 0 vo_law_spoilt_reads) (qo_some (qe_var 4 vo_law_spoilt_to)) qo_none)) (qe_slice qsl_list (qe_var 0 vo_law_spoilt_reads) (qo_some (qe_var 3 vo_law_spoilt_at)) (qo_some (qe_var 4 vo_law_spoilt_to)))))) qss_nil)
    (qss_one (qs_ret (qe_rev (qe_var 0 vo_law_spoilt_reads) (qe_un qun_neg qe_int)))))))))))))), ?_⟩
  walk_at "vs"
  intro n1 H1 n10 n11 b1 pl1
  have el1 := b1 _ _ nlp el
  walk_at "vs"
  intro n2 H2 n20 n21 b2 pl2
  have B2 := b1.trans b2
  have en2 := B2 _ _ nnp en
  walk_at "vs"
  intro n3 H3 n30 n31 b3 pl3
  have B3 := B2.trans b3
  have en3 := B3 _ _ nnp en
  obtain ⟨x, hx, hxm⟩ : ∃ x, atI (ns.map V.str) n3 = some (.str x) ∧ x ∈ ns := by
    obtain ⟨j, rfl⟩ := Int.eq_ofNat_of_zero_le n30
    have hj : j < ns.length := by rw [hlm] at n31; omega
    exact ⟨ns[j], atI_nat (by rw [List.getElem?_map, List.getElem?_eq_getElem hj]; rfl), List.getElem_mem hj⟩
  walk_at "vs"
  intro n4 H4 n40 n41 b4 pl4
  have B4 := B3.trans b4
  walk_at "vs"
  intro po hpo
  have hpo0 := but_none B4 hpo (fun z => pl4.ne hpo (by simpa using z))
  have S5 := same_new (.tup [V.str x, V.int (n4 - 4)]) hpo
  have eo : upd H4 po (.tup [V.str x, V.int (n4 - 4)]) po = some (.tup (rdV (x, n4 - 4))) := upd_same
  have B5 : But [p] H (upd H4 po (.tup [V.str x, V.int (n4 - 4)])) := B4.upd _ hpo0
  have pl5 := pl4.same S5
  generalize upd H4 po (.tup [V.str x, V.int (n4 - 4)]) = H5 at *
  have npo : po ∉ [p] := fun z => by
    obtain ⟨a, m, k, e, _⟩ := pl5
    have : po = p := by simpa using z
    rw [this, e] at eo; cases eo
  walk_at "vs"
  intro way H6 w0 w1 b6 pl6
  have B6 := B5.trans b6
  have el6 := B6 _ _ nlp el
  have eo6 := b6 _ _ npo eo
  have rl6 : RdRow H6 l 7 := ⟨xs, el6, rx.tups (hp.tups B6)⟩
  have rdo : Rdm (x, n4 - 4) := ⟨hg x hxm, by show -1000000 ≤ n4 - 4; omega, by show n4 - 4 ≤ 1000000; omega⟩
  have fin : ∀ (n : Nat), n ≤ 30 → ∀ p9 H9, Same H6 H9 → H6 p9 = none → RdRow H9 p9 n → Q (.ref p9) H9 := fun n hn p9 H9 s9 h9 r9 => by
    refine q p9 H9 (B6.trans (But.of_same s9)) ((pl6.same s9).mono (by omega)) ?_
    obtain ⟨ys, e, as, ps, h1, h2, h3, h4⟩ := r9
    exact ⟨ys, e, as, ps, h1, h2, by omega, h4⟩
  walk_at "vs"
  refine ite2 (fun c0 => ?_) (fun c0 => ?_)
  · exact Mkr.ret (((Mkr.cut rfl rl6 part0 (part1 rfl)).cat (Mkr.one rfl eo6 rdo) (by decide)).cat (Mkr.cut rfl rl6 (part1 rfl) part0) (by decide)) (Same.refl _) (fin _ (by decide))
  walk_at "vs"
  refine ite2 (fun c1 => ?_) (fun c1 => ?_)
  · exact Mkr.ret (((Mkr.cut rfl rl6 part0 (part1 rfl)).cat (Mkr.one rfl eo6 rdo) (by decide)).cat (Mkr.cut rfl rl6 (part2 rfl) part0) (by decide)) (Same.refl _) (fin _ (by decide))
  walk_at "vs"
  refine ite2 (fun c2 => ?_) (fun c2 => ?_)
  · exact Mkr.ret ((Mkr.cut rfl rl6 part0 (part1 rfl)).cat (Mkr.cut rfl rl6 (part2 rfl) part0) (by decide)) (Same.refl _) (fin _ (by decide))
  walk_at "vs"
  refine ite2 (fun c3 => ?_) (fun c3 => ?_)
  · exact Mkr.ret (((Mkr.cut rfl rl6 part0 (part1 rfl)).cat (Mkr.cut rfl rl6 (part1 rfl) (part2 rfl)) (by decide)).cat (Mkr.cut rfl rl6 (part1 rfl) part0) (by decide)) (Same.refl _) (fin _ (by decide))
  walk_at "vs"
  refine ite2 (fun c4 => ?_) (fun c4 => ?_)
  · refine Mkr.ret (((Mkr.cut rfl rl6 part0 (part1 rfl)).cat (m := 7) ?_ (by decide)).cat (Mkr.cut rfl rl6 (part2 rfl) part0) (by decide)) (Same.refl _) (fin _ (by decide))
    refine ⟨fun H7 Q7 S7 q7 => ?_⟩
    refine (Mkr.cut (K := K) rfl rl6 (part1 rfl) (part2 rfl)).run H7 _ S7 fun p1 H8 s8 h8 r8 => ?_
    obtain ⟨ys, e8, as1, ps1, rfl, hR8, hl8, hp8⟩ := r8
    have eo8 := s8 _ _ (S7 _ _ eo6)
    refine ⟨p1, rfl, ⟨_, SqL.of e8⟩, fun D hD => ?_⟩
    have hlm1 : (as1.map V.ref).length = ps1.length := by rw [List.length_map]; exact hR8.length
    refine comp_list (K := K) (xs := as1.map V.ref) (fun i σ' H' => (∃ t u, σ' = [t, u, some (.ref po)]) ∧ Same H8 H' ∧ ∃ as2 ps2, H' D = some (.lst (as2.map V.ref)) ∧ IsRds H' as2 ps2 ∧ ps2.length = i ∧ ∀ p ∈ ps2, Rdm p) ?_ ?_ ?_ ?_
    · exact ⟨⟨none, none, rfl⟩, same_new _ hD, [], [], upd_same, .nil, rfl, by simp⟩
    · intro i σ' H' _ hP
      exact SqL.of (hP.2.1 _ _ e8)
    · intro i x1 σ' H' hx1 hP
      obtain ⟨⟨t, u, rfl⟩, hs, as2, ps2, eD, hR2, hl2, hp2⟩ := hP
      have hi : i < (as1.map V.ref).length := (List.getElem?_eq_some_iff.mp hx1).1
      obtain ⟨pa, hpa, rfl⟩ := ref_at hx1
      obtain ⟨pb, hpb, epb⟩ := hR8.get i pa hpa
      have epb' : H' pa = some (.tup [.str pb.1, .int pb.2]) := hs _ _ epb
      have eo' : H' po = some (.tup [.str x, .int (n4 - 4)]) := hs _ _ eo8
      have at1 : atI [V.str x, V.int (n4 - 4)] 1 = some (.int (n4 - 4)) := rfl
      have hz : (as2.map V.ref).length < sizeLine := by rw [List.length_map, hR2.length]; exact small1000 (by omega)
      have rb : Rdm (pb.1, n4 - 4) := ⟨(hp8 pb (List.mem_of_getElem? hpb)).1, by show -1000000 ≤ n4 - 4; omega, by show n4 - 4 ≤ 1000000; omega⟩
      walk_at "vs"
      intro p9 hp9
      have s9 := same_new (.tup [V.str pb.1, V.int (n4 - 4)]) hp9
      have eD9 := s9 _ _ eD
      have e9 : upd H' p9 (.tup [V.str pb.1, V.int (n4 - 4)]) p9 = some (.tup (rdV (pb.1, n4 - 4))) := upd_same
      refine ⟨_, eD9, hz, ⟨_, _, rfl⟩, same_updN _ hD (hs.trans s9), as2 ++ [p9], ps2 ++ [(pb.1, n4 - 4)], by rw [upd_same, List.map_append]; rfl, (IsRds.snoc e9 (hR2.same s9)).tups (tups_set _ eD9), by rw [List.length_append, hl2]; rfl, fun y hy => ?_⟩
      rcases List.mem_append.mp hy with z | z
      · exact hp2 y z
      · have : y = (pb.1, n4 - 4) := by simpa using z
        rw [this]; exact rb
    · intro σ' H' hP
      obtain ⟨_, hs, as2, ps2, eD, hR2, hl2, hp2⟩ := hP
      exact q7 D H' (s8.trans hs) (same_none s8 hD) ⟨_, eD, as2, ps2, rfl, hR2, by omega, hp2⟩
  walk_at "vs"
  refine ite2 (fun c5 => ?_) (fun c5 => ?_)
  · exact Mkr.ret (((Mkr.cut rfl rl6 part0 (part1 rfl)).cat (Mkr.cut rfl rl6 (part1 rfl) part0) (by decide)).cat (Mkr.cut rfl rl6 (part1 rfl) (part1 rfl)) (by decide)) (Same.refl _) (fin _ (by decide))
  · exact Mkr.ret (Mkr.rev rfl rl6 (fun H Q h => ⟨1, rfl, h⟩)) (Same.refl _) (fin _ (by decide))
end

section
variable {P : Program} {w : World} {K : PySem.W.Frag} {mg : Str → Option Value} {base : Heap}
noncomputable def spRight : Sp := fun vs H Q _ => ∃ (b l : Addr) (r : R), vs = [.ref b, .ref l] ∧ IsR H b r ∧ r.depth ≤ 8 ∧ r.Sml ∧ r.Tm ∧ r.Good ∧ wR r ≤ 1000 ∧ RdRow H l 100 ∧ ∀ H', Same H H' → Q (.bl true) H'
noncomputable abbrev s_law_right : Stmt := top 27
theorem sc_law_right : FnScope ["r", "reads", "due", "handed", "caught", "found", "e"] ["r", "reads"] (defScope s_law_right) := ⟨rfl, rfl, rfl, by decide +kernel, rfl, by decide +kernel, by decide +kernel⟩
theorem lo_law_right_due : Loc (defScope s_law_right) "due" := by decide +kernel
theorem gl_law_right__law_behind : (defScope s_law_right).names.lookup ("_law_behind" : Str) = some NameKind.globalImplicit := by decide +kernel
theorem vo_law_right_reads : VarOk (defScope s_law_right) "reads" := by decide +kernel
theorem vo_law_right_r : VarOk (defScope s_law_right) "r" := by decide +kernel
theorem db_law_right__law_behind : (("_law_behind" : Str) == ("__debug__" : Str)) = false := by decide +kernel
theorem lo_law_right_handed : Loc (defScope s_law_right) "handed" := by decide +kernel
theorem gl_law_right_list : (defScope s_law_right).names.lookup ("list" : Str) = some NameKind.globalImplicit := by decide +kernel
theorem nn_law_right_list : ("list" : Str) ≠ "__name__" := by decide +kernel
theorem db_law_right_list : (("list" : Str) == ("__debug__" : Str)) = false := by decide +kernel
theorem lo_law_right_caught : Loc (defScope s_law_right) "caught" := by decide +kernel
theorem lo_law_right_found : Loc (defScope s_law_right) "found" := by decide +kernel
theorem gl_law_right_behind : (defScope s_law_right).names.lookup ("behind" : Str) = some NameKind.globalImplicit := by decide +kernel
theorem vo_law_right_handed : VarOk (defScope s_law_right) "handed" := by decide +kernel
theorem db_law_right_behind : (("behind" : Str) == ("__debug__" : Str)) = false := by decide +kernel
theorem ll_law_right_e : (defScope s_law_right).names.lookup ("e" : Str) = some NameKind.local := by decide +kernel
theorem gl_law_right_MadeError : (defScope s_law_right).names.lookup ("MadeError" : Str) = some NameKind.globalImplicit := by decide +kernel
theorem vo_law_right_e : VarOk (defScope s_law_right) "e" := by decide +kernel
theorem db_law_right_MadeError : (("MadeError" : Str) == ("__debug__" : Str)) = false := by decide +kernel
theorem vo_law_right_due : VarOk (defScope s_law_right) "due" := by decide +kernel
theorem gl_law_right__law_kinds : (defScope s_law_right).names.lookup ("_law_kinds" : Str) = some NameKind.globalImplicit := by decide +kernel
theorem vo_law_right_caught : VarOk (defScope s_law_right) "caught" := by decide +kernel
theorem db_law_right__law_kinds : (("_law_kinds" : Str) == ("__debug__" : Str)) = false := by decide +kernel
theorem vo_law_right_found : VarOk (defScope s_law_right) "found" := by decide +kernel
theorem gl_law_right_isinstance : (defScope s_law_right).names.lookup ("isinstance" : Str) = some NameKind.globalImplicit := by decide +kernel
theorem gl_law_right_tuple : (defScope s_law_right).names.lookup ("tuple" : Str) = some NameKind.globalImplicit := by decide +kernel
theorem nn_law_right_tuple : ("tuple" : Str) ≠ "__name__" := by decide +kernel
theorem db_law_right_tuple : (("tuple" : Str) == ("__debug__" : Str)) = false := by decide +kernel
theorem nn_law_right_isinstance : ("isinstance" : Str) ≠ "__name__" := by decide +kernel
theorem db_law_right_isinstance : (("isinstance" : Str) == ("__debug__" : Str)) = false := by decide +kernel
theorem gl_law_right_bool : (defScope s_law_right).names.lookup ("bool" : Str) = some NameKind.globalImplicit := by decide +kernel
theorem nn_law_right_bool : ("bool" : Str) ≠ "__name__" := by decide +kernel
theorem db_law_right_bool : (("bool" : Str) == ("__debug__" : Str)) = false := by decide +kernel
theorem gl_law_right_int : (defScope s_law_right).names.lookup ("int" : Str) = some NameKind.globalImplicit := by decide +kernel
theorem nn_law_right_int : ("int" : Str) ≠ "__name__" := by decide +kernel
theorem db_law_right_int : (("int" : Str) == ("__debug__" : Str)) = false := by decide +kernel
theorem ok_law_right {f g0 g1 g2 CM CR1 : Addr} {fd gd0 gd1 gd2 : FuncData} (T_law_right : FnT K mg "_law_right" s_law_right ["r", "reads"] f fd) (T_law_behind : FnT K mg "_law_behind" s_law_behind ["r", "reads"] g0 gd0) (G_law_behind : FnOk P w K mg base CX0 11 g0 gd0 ["r", "reads"] spLB)
    (T_behind : FnT K mg "behind" s_behind ["r", "reads"] g1 gd1) (G_behind : FnOk P w K mg base (CXx P w) 4 g1 gd1 ["r", "reads"] (spBehind CR1)) (T_law_kinds : FnT K mg "_law_kinds" s_law_kinds ["caught", "due"] g2 gd2) (G_law_kinds : FnOk P w K mg base CX0 1 g2 gd2 ["caught", "due"] (spKinds CR1))
    (T : Blt mg) (xk : ExK K CR1) (mMadeError : mg "MadeError" = some (.ref CM)) (x1 : PySem.W.exmOne K (.ref CR1) (.ref CM) = some true) : FnOk P w K mg base CX0 12 f fd ["r", "reads"] spRight := by
  refine T_law_right.F.okQ sc_law_right (fun vs H Q E h => ?_) (fun cdv A outer s0 H vs Q E hr h => ?_)
  · obtain ⟨b, l, r, rfl, _⟩ := h
    rfl
  obtain ⟨b, l, r, rfl, hR, hd, hs, ht, hg, hw, ⟨xs, el, as, ps, rfl, hRs, hn, hp⟩, q⟩ := h
  refine ⟨_, (qss_cons (qs_set (i := 2) sc_law_right.nd rfl lo_law_right_due (qe_call (G_law_behind.mono (by omega)) hr gl_law_right__law_behind T_law_behind.m T_law_behind.F.kp T_law_behind.b .nil pass0 (qa_N (qe_var 0 vo_law_right_r) (qa_N (qe_var 1 vo_law_right_reads) qa_nil)) db_law_right__law_behind))
    (qss_cons (qs_set (i := 3) sc_law_right.nd rfl lo_law_right_handed (qe_callTy qc_list_of gl_law_right_list T.b_list bt_list (qa_N (qe_var 1 vo_law_right_reads) qa_nil) nn_law_right_list db_law_right_list))
    (qss_cons (qs_set (i := 4) sc_law_right.nd rfl lo_law_right_caught qe_non)
    (qss_cons (qs_set (i := 5) sc_law_right.nd rfl lo_law_right_found qe_non)
    (qss_cons (qs_try_as (i := 6) rfl rfl rfl sc_law_right.nd rfl ll_law_right_e gl_law_right_MadeError mMadeError (fun pn xe E hX => (qss_one (qs_set (i := 5) sc_law_right.nd rfl lo_law_right_found (qe_callX (G_behind.mono (by omega)) hr gl_law_right_behind T_behind.m T_behind.F.kp T_behind.b .nil hX (qa_N (qe_var 0 vo_law_right_r) (qa_N (qe_var 3 vo_law_right_handed) qa_nil)) db_law_right_behind)))) (fun e => (qss_one (qs_set (i := 4) sc_law_right.nd rfl lo_law_right_caught (qe_var 6 vo_law_right_e)))) db_law_right_MadeError)
    (qss_cons (qs_if (qt_cmp (qop_neSame hr.units) (qe_var 3 vo_law_right_handed) (qe_var 1 vo_law_right_reads) (nomarkQ _)) (qss_one (qs_ret qe_bl)) qss_nil)
    (qss_cons (qs_if (qt_cmp qop_isN (qe_var 2 vo_law_right_due) qe_non (nomarkQ _)) (qss_one (qs_ret (qe_call (G_law_kinds.mono (by omega)) hr gl_law_right__law_kinds T_law_kinds.m T_law_kinds.F.kp T_law_kinds.b .nil pass0 (qa_N (qe_var 4 vo_law_right_caught) (qa_C qe_int qa_nil)) db_law_right__law_kinds))) qss_nil)
    (qss_cons (qs_if (qt_w (qw_or (qt_cmp qop_notN (qe_var 4 vo_law_right_caught) qe_non (nomarkQ _)) (qw_or (qt_not (qt_val (qe_callB qc_isi gl_law_right_isinstance T.b_isinstance bt_isinstance (qa_N (qe_var 5 vo_law_right_found) (qa_N (qe_bltn (v := .ty "tuple") gl_law_right_tuple T.b_tuple bt_tuple rfl nn_law_right_tuple db_law_right_tuple) qa_nil)) nn_law_right_isinstance db_law_right_isinstance))) (qw_or (qt_cmp (qop_neSame hr.units) (qe_var 5 vo_law_right_found) (qe_var 2 vo_law_right_due) (nomarkQ _)) (qw_or1 (qt_cmp (qop_neSame hr.units) (qe_callX (G_behind.mono (by omega)) hr gl_law_right_behind T_behind.m T_behind.F.kp T_behind.b .nil passF (qa_N (qe_var 0 vo_law_right_r) (qa_N (qe_var 3 vo_law_right_handed) qa_nil)) db_law_right_behind) (qe_var 2 vo_law_right_due) (nomarkQ _))))))) (qss_one (qs_ret qe_bl)) qss_nil)
    (qss_one (qs_ret (qe_or (qe_cmp qop_eq (qe_ix qix_tup (qe_var 2 vo_law_right_due) qe_int) qe_str (nomarkQ _)) (qe_one (qe_and (qe_callB qc_isi gl_law_right_isinstance T.b_isinstance bt_isinstance (qa_S (qe_ix qix_tup (qe_var 5 vo_law_right_found) qe_int) (qa_N (qe_bltn (v := .ty "int") gl_law_right_int T.b_int bt_int rfl nn_law_right_int db_law_right_int) qa_nil)) nn_law_right_isinstance db_law_right_isinstance) (qe_one (qe_not (qe_callB qc_isi gl_law_right_isinstance T.b_isinstance bt_isinstance (qa_S (qe_ix qix_tup (qe_var 5 vo_law_right_found) qe_int) (qa_N (qe_bltn (v := .ty "bool") gl_law_right_bool T.b_bool bt_bool rfl nn_law_right_bool db_law_right_bool) qa_nil)) nn_law_right_isinstance db_law_right_isinstance)))))))))))))))), ?_⟩
  have hp' : ∀ p ∈ ps, GName p.1 ∧ -1000000 ≤ p.2 ∧ p.2 ≤ 1000000 := hp
  have hps : ∀ p ∈ ps, Small p.2 := fun p h => by
    have := hp p h
    exact ⟨by have := this.2.1; omega, by have := this.2.2; omega⟩
  have hn1 : ps.length ≤ 1000 := by omega
  have hw4 : wR r ≤ 4000 := by omega
  have hgn : ∀ p ∈ ps, GName p.1 := fun p h => (hp p h).1
  walk_at "vs"
  cases hb : bh r kn0 ps with
  | none =>
    intro H1 s1
    have R1 := hR.same s1
    have el1 := s1 _ _ el
    have hRs1 := hRs.same s1
    walk_at "vs"
    intro l2 hl2
    have s2 := same_new (.lst (as.map V.ref)) hl2
    have e2 : upd H1 l2 (.lst (as.map V.ref)) l2 = some (.lst (as.map V.ref)) := upd_same
    have el2 := s2 _ _ el1
    have R2 := R1.same s2
    have hRs2 := hRs1.same s2
    generalize upd H1 l2 (.lst (as.map V.ref)) = H2 at *
    walk_at "vs"
    rw [hb]
    intro H3 s3
    refine ⟨x1, fun pe hpe => ?_⟩
    have s4 := s3.trans (same_new (excO (.ref CR1) pe) hpe)
    have epe : upd H3 pe (excO (.ref CR1) pe) pe = some (excO (.ref CR1) pe) := upd_same
    have e4 := s4 _ _ e2
    have el4 := s4 _ _ el2
    have hRs4 := hRs2.same s4
    generalize upd H3 pe (excO (.ref CR1) pe) = H4 at *
    walk_at "vs"
    refine ⟨_, .lst (SqL.of e4) (rds_datVs hRs4), .lst (SqL.of el4) (rds_datVs hRs4), rds_shaped hgn, ?_⟩
    walk_at "vs"
    exact fun H' s' => q _ (s1.trans (s2.trans (s4.trans s')))
  | some y =>
    have hyg : ∀ x, y = .inl x → GName x := fun x e => ev_gn hg ((bh_some hb).symm.trans e)
    refine lb_some rfl fun dt H1 s1 du1 => ?_
    have R1 := hR.same s1
    have el1 := s1 _ _ el
    have hRs1 := hRs.same s1
    walk_at "vs"
    intro l2 hl2
    have s2 := same_new (.lst (as.map V.ref)) hl2
    have e2 : upd H1 l2 (.lst (as.map V.ref)) l2 = some (.lst (as.map V.ref)) := upd_same
    have el2 := s2 _ _ el1
    have R2 := R1.same s2
    have hRs2 := hRs1.same s2
    have du2 := du1.same s2
    have S2 := s1.trans s2
    generalize upd H1 l2 (.lst (as.map V.ref)) = H2 at *
    walk_at "vs"
    rw [hb]
    cases y with
    | inl x =>
      intro ft H3 s3 du3
      have e4 := s3 _ _ e2
      have el4 := s3 _ _ el2
      have hRs4 := hRs2.same s3
      have R4 := R2.same s3
      have du3' : DueAt H3 dt (.inl x) := du2.same s3
      have S3 := S2.trans s3
      walk_at "vs"
      refine ⟨_, .lst (SqL.of e4) (rds_datVs hRs4), .lst (SqL.of el4) (rds_datVs hRs4), rds_shaped hgn, ?_⟩
      walk_at "vs"
      refine ⟨_, due_dat (y := .inl x) du3, due_dat (y := .inl x) du3', due_shaped hyg, ?_⟩
      walk_at "vs"
      rw [hb]
      intro ft2 H5 s5 du5
      have du5' := du3'.same s5
      have du35 := DueAt.same (y := .inl x) s5 du3
      have S5 := S3.trans s5
      have d5 : H5 dt = some (.tup [.str "read", .str x]) := du5'
      have f5 : H5 ft = some (.tup [.str "read", .str x]) := du35
      walk_at "vs"
      refine ⟨_, due_dat (y := .inl x) du5, due_dat (y := .inl x) du5', due_shaped hyg, ?_⟩
      walk_at "vs"
      exact q _ S5
    | inr v =>
      intro ft H3 s3 du3
      have e4 := s3 _ _ e2
      have el4 := s3 _ _ el2
      have hRs4 := hRs2.same s3
      have R4 := R2.same s3
      have du3' : DueAt H3 dt (.inr v) := du2.same s3
      have S3 := S2.trans s3
      walk_at "vs"
      refine ⟨_, .lst (SqL.of e4) (rds_datVs hRs4), .lst (SqL.of el4) (rds_datVs hRs4), rds_shaped hgn, ?_⟩
      walk_at "vs"
      refine ⟨_, due_dat (y := .inr v) du3, due_dat (y := .inr v) du3', due_shaped hyg, ?_⟩
      walk_at "vs"
      rw [hb]
      intro ft2 H5 s5 du5
      have du5' := du3'.same s5
      have du35 := DueAt.same (y := .inr v) s5 du3
      have S5 := S3.trans s5
      have d5 : H5 dt = some (.tup [.str "worth", .int v]) := du5'
      have f5 : H5 ft = some (.tup [.str "worth", .int v]) := du35
      walk_at "vs"
      refine ⟨_, due_dat (y := .inr v) du5, due_dat (y := .inr v) du5', due_shaped hyg, ?_⟩
      walk_at "vs"
      exact q _ S5
end

section
variable {P : Program} {w : World} {K : PySem.W.Frag} {mg : Str → Option Value} {base : Heap}
noncomputable abbrev s_law : Stmt := top 28
theorem sc_law : FnScope ["script", "k", "pool", "names", "r", "numbers", "name", "some", "reads", "worth", "at", "turn"] ["script"] (defScope s_law) := ⟨rfl, rfl, rfl, by decide +kernel, rfl, by decide +kernel, by decide +kernel⟩
theorem gl_law_range : (defScope s_law).names.lookup ("range" : Str) = some NameKind.globalImplicit := by decide +kernel
theorem gl_law_max : (defScope s_law).names.lookup ("max" : Str) = some NameKind.globalImplicit := by decide +kernel
theorem gl_law_min : (defScope s_law).names.lookup ("min" : Str) = some NameKind.globalImplicit := by decide +kernel
theorem gl_law_len : (defScope s_law).names.lookup ("len" : Str) = some NameKind.globalImplicit := by decide +kernel
theorem vo_law_script : VarOk (defScope s_law) "script" := by decide +kernel
theorem nn_law_len : ("len" : Str) ≠ "__name__" := by decide +kernel
theorem db_law_len : (("len" : Str) == ("__debug__" : Str)) = false := by decide +kernel
theorem nn_law_min : ("min" : Str) ≠ "__name__" := by decide +kernel
theorem db_law_min : (("min" : Str) == ("__debug__" : Str)) = false := by decide +kernel
theorem nn_law_max : ("max" : Str) ≠ "__name__" := by decide +kernel
theorem db_law_max : (("max" : Str) == ("__debug__" : Str)) = false := by decide +kernel
theorem lo_law_k : Loc (defScope s_law) "k" := by decide +kernel
theorem lo_law_pool : Loc (defScope s_law) "pool" := by decide +kernel
theorem gl_law__law_pool : (defScope s_law).names.lookup ("_law_pool" : Str) = some NameKind.globalImplicit := by decide +kernel
theorem vo_law_k : VarOk (defScope s_law) "k" := by decide +kernel
theorem db_law__law_pool : (("_law_pool" : Str) == ("__debug__" : Str)) = false := by decide +kernel
theorem lo_law_names : Loc (defScope s_law) "names" := by decide +kernel
theorem gl_law__law_names : (defScope s_law).names.lookup ("_law_names" : Str) = some NameKind.globalImplicit := by decide +kernel
theorem vo_law_pool : VarOk (defScope s_law) "pool" := by decide +kernel
theorem db_law__law_names : (("_law_names" : Str) == ("__debug__" : Str)) = false := by decide +kernel
theorem lo_law_r : Loc (defScope s_law) "r" := by decide +kernel
theorem gl_law__law_recipe : (defScope s_law).names.lookup ("_law_recipe" : Str) = some NameKind.globalImplicit := by decide +kernel
theorem vo_law_names : VarOk (defScope s_law) "names" := by decide +kernel
theorem db_law__law_recipe : (("_law_recipe" : Str) == ("__debug__" : Str)) = false := by decide +kernel
theorem lo_law_numbers : Loc (defScope s_law) "numbers" := by decide +kernel
theorem lo_law_name : Loc (defScope s_law) "name" := by decide +kernel
theorem lo_law_some : Loc (defScope s_law) "some" := by decide +kernel
theorem gl_law__law_take : (defScope s_law).names.lookup ("_law_take" : Str) = some NameKind.globalImplicit := by decide +kernel
theorem db_law__law_take : (("_law_take" : Str) == ("__debug__" : Str)) = false := by decide +kernel
theorem vo_law_numbers : VarOk (defScope s_law) "numbers" := by decide +kernel
theorem vo_law_name : VarOk (defScope s_law) "name" := by decide +kernel
theorem vo_law_some : VarOk (defScope s_law) "some" := by decide +kernel
theorem gl_law__law_all_reads : (defScope s_law).names.lookup ("_law_all_reads" : Str) = some NameKind.globalImplicit := by decide +kernel
theorem vo_law_r : VarOk (defScope s_law) "r" := by decide +kernel
theorem db_law__law_all_reads : (("_law_all_reads" : Str) == ("__debug__" : Str)) = false := by decide +kernel
theorem lo_law_worth : Loc (defScope s_law) "worth" := by decide +kernel
theorem lo_law_reads : Loc (defScope s_law) "reads" := by decide +kernel
theorem vo_law_reads : VarOk (defScope s_law) "reads" := by decide +kernel
theorem lo_law_at : Loc (defScope s_law) "at" := by decide +kernel
theorem gl_law__law_right : (defScope s_law).names.lookup ("_law_right" : Str) = some NameKind.globalImplicit := by decide +kernel
theorem vo_law_at : VarOk (defScope s_law) "at" := by decide +kernel
theorem db_law__law_right : (("_law_right" : Str) == ("__debug__" : Str)) = false := by decide +kernel
theorem lo_law_turn : Loc (defScope s_law) "turn" := by decide +kernel
theorem gl_law__law_spoilt : (defScope s_law).names.lookup ("_law_spoilt" : Str) = some NameKind.globalImplicit := by decide +kernel
theorem db_law__law_spoilt : (("_law_spoilt" : Str) == ("__debug__" : Str)) = false := by decide +kernel
theorem ok_law {f g1 g2 g3 g4 g5 g6 g7 : Addr} {fd gd1 gd2 gd3 gd4 gd5 gd6 gd7 : FuncData} (T_law : FnT K mg "law" s_law ["script"] f fd)
    (T_law_pool : FnT K mg "_law_pool" s_law_pool ["script", "k"] g1 gd1) (G_law_pool : FnOk P w K mg base CX0 1 g1 gd1 ["script", "k"] (spPl K))
    (T_law_take : FnT K mg "_law_take" s_law_take ["pool", "many"] g2 gd2) (G_law_take : FnOk P w K mg base CX0 1 g2 gd2 ["pool", "many"] spTk)
    (T_law_names : FnT K mg "_law_names" s_law_names ["pool"] g3 gd3) (G_law_names : FnOk P w K mg base CX0 2 g3 gd3 ["pool"] spNms)
    (T_law_recipe : FnT K mg "_law_recipe" s_law_recipe ["pool", "names", "most"] g4 gd4) (G_law_recipe : FnOk P w K mg base CX0 7 g4 gd4 ["pool", "names", "most"] spRcp)
    (T_law_all_reads : FnT K mg "_law_all_reads" s_law_all_reads ["r", "numbers"] g5 gd5) (G_law_all_reads : FnOk P w K mg base CX0 12 g5 gd5 ["r", "numbers"] spAll)
    (T_law_right : FnT K mg "_law_right" s_law_right ["r", "reads"] g6 gd6) (G_law_right : FnOk P w K mg base CX0 12 g6 gd6 ["r", "reads"] spRight)
    (T_law_spoilt : FnT K mg "_law_spoilt" s_law_spoilt ["reads", "names", "pool"] g7 gd7) (G_law_spoilt : FnOk P w K mg base CX0 2 g7 gd7 ["reads", "names", "pool"] spSpl)
    (T : Blt mg) : FnOk P w K mg base CX0 13 f fd ["script"] (spLaw K) := by
  refine T_law.F.okQ sc_law (fun vs H Q E h => ?_) (fun cdv A outer s H vs Q E hr h => ?_)
  · obtain ⟨a, ns, rfl, _⟩ := h
    rfl
  obtain ⟨a, zs, rfl, hS, h63, q⟩ := h
  refine ⟨_, (qss_cons (qs_for PassesOwn.never rfl (qi_range1 gl_law_range T.b_range (qa_F (qe_callB (qc_max2 rfl) gl_law_max T.b_max bt_max (qa_C qe_int (qa_F (qe_callB (qc_min2 rfl) gl_law_min T.b_min bt_min (qa_C qe_int (qa_F (qe_callB qc_len_seq gl_law_len T.b_len bt_len (qa_N (qe_var 0 vo_law_script) qa_nil) nn_law_len db_law_len) qa_nil)) nn_law_min db_law_min) qa_nil)) nn_law_max db_law_max) qa_nil)) (qg_name (i := 1) sc_law.nd rfl lo_law_k) (qss_cons (qs_set (i := 2) sc_law.nd rfl lo_law_pool (qe_call (G_law_pool.mono (by omega)) hr gl_law__law_pool T_law_pool.m T_law_pool.F.kp T_law_pool.b .nil pass0 (qa_N (qe_var 0 vo_law_script) (qa_N (qe_var 1 vo_law_k) qa_nil)) db_law__law_pool))
    (qss_cons (qs_set (i := 3) sc_law.nd rfl lo_law_names (qe_call (G_law_names.mono (by omega)) hr gl_law__law_names T_law_names.m T_law_names.F.kp T_law_names.b .nil pass0 (qa_N (qe_var 2 vo_law_pool) qa_nil) db_law__law_names))
    (qss_cons (qs_set (i := 4) sc_law.nd rfl lo_law_r (qe_call (G_law_recipe.mono (by omega)) hr gl_law__law_recipe T_law_recipe.m T_law_recipe.F.kp T_law_recipe.b .nil pass0 (qa_N (qe_var 2 vo_law_pool) (qa_N (qe_var 3 vo_law_names) (qa_B (qe_op qop_pow qe_int qe_int) qa_nil))) db_law__law_recipe))
    (qss_cons (qs_set (i := 5) sc_law.nd rfl lo_law_numbers qe_dnewK)
    (qss_cons (qs_for PassesOwn.never rfl (qi_list (qe_var 3 vo_law_names)) (qg_name (i := 6) sc_law.nd rfl lo_law_name) (qss_cons (qs_set (i := 7) sc_law.nd rfl lo_law_some (qe_lst (qa_B (qe_op qop_sub (qe_call (G_law_take.mono (by omega)) hr gl_law__law_take T_law_take.m T_law_take.F.kp T_law_take.b .nil pass0 (qa_N (qe_var 2 vo_law_pool) (qa_C qe_int qa_nil)) db_law__law_take) qe_int) (qa_B (qe_op qop_sub (qe_call (G_law_take.mono (by omega)) hr gl_law__law_take T_law_take.m T_law_take.F.kp T_law_take.b .nil pass0 (qa_N (qe_var 2 vo_law_pool) (qa_B (qe_op qop_add (qe_op qop_mul qe_int (qe_op qop_pow qe_int qe_int)) qe_int) qa_nil)) db_law__law_take) (qe_op qop_pow qe_int qe_int)) qa_nil))))
    (qss_one (qs_dput (hu_of hr) (qe_var 5 vo_law_numbers) (qe_var 6 vo_law_name) (qe_ix qix_list (qe_var 7 vo_law_some) (qe_call (G_law_take.mono (by omega)) hr gl_law__law_take T_law_take.m T_law_take.F.kp T_law_take.b .nil pass0 (qa_N (qe_var 2 vo_law_pool) (qa_C qe_int qa_nil)) db_law__law_take))))))
    (qss_cons (qs_asg (qe_call (G_law_all_reads.mono (by omega)) hr gl_law__law_all_reads T_law_all_reads.m T_law_all_reads.F.kp T_law_all_reads.b .nil pass0 (qa_N (qe_var 4 vo_law_r) (qa_N (qe_var 5 vo_law_numbers) qa_nil)) db_law__law_all_reads) (qg_tup rfl (qgs_cons (qg_name (i := 8) sc_law.nd rfl lo_law_reads) (qgs_cons (qg_name (i := 9) sc_law.nd rfl lo_law_worth) qgs_nil))))
    (qss_cons (qs_for PassesOwn.never rfl (qi_range1 gl_law_range T.b_range (qa_B (qe_op qop_add (qe_callB qc_len_seq gl_law_len T.b_len bt_len (qa_N (qe_var 8 vo_law_reads) qa_nil) nn_law_len db_law_len) qe_int) qa_nil)) (qg_name (i := 10) sc_law.nd rfl lo_law_at) (qss_one (qs_if (qt_not (qt_val (qe_call (G_law_right.mono (by omega)) hr gl_law__law_right T_law_right.m T_law_right.F.kp T_law_right.b .nil pass0 (qa_N (qe_var 4 vo_law_r) (qa_S (qe_slice qsl_list (qe_var 8 vo_law_reads) qo_none (qo_some (qe_var 10 vo_law_at))) qa_nil)) db_law__law_right))) (qss_one (qs_ret qe_bl)) qss_nil)))
    (qss_one (qs_for PassesOwn.never rfl (qi_range1 gl_law_range T.b_range (qa_C qe_int qa_nil)) (qg_name (i := 11) sc_law.nd rfl lo_law_turn) (qss_one (qs_if (qt_not (qt_val (qe_call (G_law_right.mono (by omega)) hr gl_law__law_right T_law_right.m T_law_right.F.kp T_law_right.b .nil pass0 (qa_N (qe_var 4 vo_law_r) (qa_F (qe_call (G_law_spoilt.mono (by omega)) hr gl_law__law_spoilt T_law_spoilt.m T_law_spoilt.F.kp T_law_spoilt.b .nil pass0 (qa_N (qe_var 8 vo_law_reads) (qa_N (qe_var 3 vo_law_names) (qa_N (qe_var 2 vo_law_pool) qa_nil))) db_law__law_spoilt) qa_nil)) db_law__law_right))) (qss_one (qs_ret qe_bl)) qss_nil))))))))))))
    (qss_one (qs_ret qe_bl))), ?_⟩
  have cp : CPow 10 6 := ⟨by decide, by decide, by decide⟩
  walk_at "vs"
  refine for_range (fun i σ H' => (∃ t1 t2 t3 t4 t5 t6 t7 t8 t9 t10 t11, σ = [some (.ref a), t1, t2, t3, t4, t5, t6, t7, t8, t9, t10, t11]) ∧ Same H H') ?_ ?_ ?_
  · exact ⟨⟨none, none, none, none, none, none, none, none, none, none, none, rfl⟩, Same.refl _⟩
  rotate_left
  · intro σ H' hP
    obtain ⟨⟨t1, t2, t3, t4, t5, t6, t7, t8, t9, t10, t11, rfl⟩, S⟩ := hP
    walk_at "vs"
    exact q H'
  · intro i σ H0 hi hP
    obtain ⟨⟨t1, t2, t3, t4, t5, t6, t7, t8, t9, t10, t11, rfl⟩, S0⟩ := hP
    have hi12 : i < 13 := by
      revert hi
      split
      · split <;> intro hi <;> omega
      · intro hi; omega
    have hS0 := SqL.same S0 hS
    walk_at "vs"
    intro p H1 s1 hp0 pl1
    have fr : ∀ y ∈ [p], H0 y = none := fun y hy => by
      have : y = p := by simpa using hy
      rw [this]; exact hp0
    walk_at "vs"
    intro l ns H2 b2 pl2 hl1 el2 hn1 hn7 hg
    have nlp : l ≠ p := pl1.ne hl1
    have S2 := but_same s1 fr b2
    have e6 : (10 : Int) ^ (6 : Int).toNat = 1000000 := by decide +kernel
    walk_at "vs"
    intro br r H3 b3 pl3 R3 ok3 w3 d3
    have S3 := but_same s1 fr (b2.trans b3)
    have el3 := b3 _ _ (by simpa using nlp) el2
    walk_at "vs"
    intro nd hnd
    have s4 := same_new (.dK []) hnd
    have S4 := S3.trans s4
    have pl4 := pl3.same s4
    have el4 := s4 _ _ el3
    have R4 := R3.same s4
    have e4 : upd H3 nd (.dK []) nd = some (.dK []) := upd_same
    have hnd0 := same_none S3 hnd
    have ndp : nd ≠ p := pl3.ne hnd
    have ndl : nd ≠ l := fun z => by rw [z, el3] at hnd; cases hnd
    generalize upd H3 nd (.dK []) = H4 at *
    clear b2 b3
    walk_at "vs"
    have cm : CMul 2 ((10 : Int) ^ (6 : Int).toNat) := .inl ⟨by decide, by decide⟩
    refine for_list (K := K) (xs := ns.map V.str) (fun j σ H' => (∃ t6 t7, σ = [some (.ref a), some (.int (0 + (i : Int))), some (.ref p), some (.ref l), some (.ref br), some (.ref nd), t6, t7, t8, t9, t10, t11]) ∧ Same H0 H' ∧ PlAt H' p (1100 + 70 + 1000 + 3 * j) ∧ H' l = some (.lst (ns.map V.str)) ∧ IsR H' br r ∧ ∃ kvs : List (Key × V), H' nd = some (.dK kvs) ∧ kvs.length ≤ j ∧ ∀ x ∈ ns.take j, ∃ v, valV kvs (.inr x) = some (.int v) ∧ -1000000 ≤ v ∧ v ≤ 1000000) ?_ ?_ ?_ ?_
    · exact ⟨⟨_, _, rfl⟩, S4, pl4, el4, R4, [], e4, Nat.le_refl _, by simp⟩
    · intro j σ H' _ hP
      exact SqL.of hP.2.2.2.1
    · intro j xv σ H5 hxv hP
      obtain ⟨⟨t6, t7, rfl⟩, S5, pl5, el5, R5, kvs, ed5, hkl, hnum⟩ := hP
      have hj : j < (ns.map V.str).length := (List.getElem?_eq_some_iff.mp hxv).1
      rw [List.length_map] at hj
      have hxe : ns[j]? = some (ns[j]) := List.getElem?_eq_getElem hj
      have hxv' : xv = .str (ns[j]) := by
        rw [List.getElem?_map, hxe] at hxv
        exact (Option.some.inj hxv).symm
      subst hxv'
      walk_at "vs"
      intro n1 H6 n10 n11 b6 pl6
      walk_at "vs"
      intro n2 H7 n20 n21 b7 pl7
      have n21' : n2 < 2 * (10 : Int) ^ (6 : Int).toNat + 1 := n21
      rw [e6] at n21'
      have B7 := b6.trans b7
      have S7 := but_same S5 fr B7
      have R7 := R5.tups (pl5.tups B7)
      have el7 := B7 _ _ (by simpa using nlp) el5
      have ed7 := B7 _ _ (by simpa using ndp) ed5
      walk_at "vs"
      intro ps hps
      have s8 := same_new (.lst [V.int (n1 - 4), V.int (n2 - (10 : Int) ^ (6 : Int).toNat)]) hps
      have e8 : upd H7 ps (.lst [V.int (n1 - 4), V.int (n2 - (10 : Int) ^ (6 : Int).toNat)]) ps = some (.lst [V.int (n1 - 4), V.int (n2 - 1000000)]) := by rw [e6]; exact upd_same
      have S8 := S7.trans s8
      have pl8 := pl7.same s8
      have R8 := R7.same s8
      have el8 := s8 _ _ el7
      have ed8 := s8 _ _ ed7
      have nps : ps ∉ [p] := fun z => pl7.ne hps (by simpa using z)
      generalize upd H7 ps (.lst [V.int (n1 - 4), V.int (n2 - (10 : Int) ^ (6 : Int).toNat)]) = H8 at *
      walk_at "vs"
      intro n3 H9 n30 n31 b9 pl9
      have S9 := but_same S8 fr b9
      have R9 := R8.tups (pl8.tups b9)
      have el9 := b9 _ _ (by simpa using nlp) el8
      have ed9 := b9 _ _ (by simpa using ndp) ed8
      have e9 := b9 _ _ nps e8
      obtain ⟨v, hv, hv0, hv1⟩ : ∃ v : Int, atI [V.int (n1 - 4), V.int (n2 - 1000000)] n3 = some (.int v) ∧ -1000000 ≤ v ∧ v ≤ 1000000 := by
        have : n3 = 0 ∨ n3 = 1 := by omega
        rcases this with rfl | rfl
        · exact ⟨n1 - 4, rfl, by omega, by omega⟩
        · exact ⟨n2 - 1000000, rfl, by omega, by omega⟩
      have dp : DPut H9 nd (.str ns[j]) (.int v) (upd H9 nd (.dK (putK kvs (.inr ns[j]) (.int v)))) := DPut.k (k := .inr ns[j]) ed9 (small1000 (by omega))
      walk_at "vs"
      have t10' : Tups H9 (upd H9 nd (.dK (putK kvs (.inr ns[j]) (.int v)))) := fun y xs z => (upd_ne (fun w => by rw [w, ed9] at z; cases z)).trans z
      refine ⟨⟨_, _, rfl⟩, same_updN _ hnd0 S9, (pl9.keep (But.set _ (by simp)) (S := [nd]) (by simpa using Ne.symm ndp)).mono (by omega), (upd_ne (Ne.symm ndl)).trans el9, R9.tups t10', _, upd_same, ?_, fun y hy => ?_⟩
      · have : (putK kvs (.inr ns[j]) (.int v)).length ≤ kvs.length + 1 := by
          unfold putK
          split
          · rw [List.length_map]; omega
          · rw [List.length_append]; simp
        omega
      · rw [valV_put]
        by_cases hy1 : y = ns[j]
        · rw [if_pos (by rw [hy1])]; exact ⟨v, rfl, hv0, hv1⟩
        · rw [if_neg (fun z => hy1 (Sum.inr.inj z))]
          rw [List.take_add_one, hxe] at hy
          rcases List.mem_append.mp hy with z | z
          · exact hnum y z
          · exact absurd (by simpa using z) hy1
    · intro σ H5 hP
      obtain ⟨⟨t6, t7, rfl⟩, S5, pl5, el5, R5, kvs, ed5, hkl, hnum⟩ := hP
      rw [List.length_map] at pl5 hnum
      rw [List.take_length] at hnum
      have nu : NumAt H5 nd ns := ⟨kvs, ed5, hnum⟩
      walk_at "vs"
      intro tt lr as ps wv H6 s6 hlr ett elr hRs hps7 hrdm
      have S6 := S5.trans s6
      have pl6 := pl5.same s6
      have el6 := s6 _ _ el5
      have R6 := R5.same s6
      have hsm := ok3.s
      have htm := ok3.t
      have hgd := ok3.g
      have rx6 : RdX H6 (as.map V.ref) 7 := ⟨as, ps, rfl, hRs, hps7, hrdm⟩
      have nlr : lr ≠ p := pl5.ne hlr
      have hxl := rx6.len
      generalize as.map V.ref = xr at *
      iterate 11 walk_at "v"
      refine ⟨_, rfl, by omega, by omega, ?_⟩
      refine for_range (fun j σ H' => (∃ t10, σ = [some (.ref a), some (.int (0 + (i : Int))), some (.ref p), some (.ref l), some (.ref br), some (.ref nd), t6, t7, some (.ref lr), some (.int wv), t10, t11]) ∧ Same H6 H') ?_ ?_ ?_
      · exact ⟨⟨_, rfl⟩, Same.refl _⟩
      · intro j σ H7 _ hP
        obtain ⟨⟨t10, rfl⟩, s7⟩ := hP
        have elr7 := s7 _ _ elr
        have R7 := R6.same s7
        have rx7 := rx6.same s7
        walk_at "vs"
        intro pz hpz
        have s8 := same_new (.lst (cutV xr none (some (0 + (j : Int))))) hpz
        have rr : RdRow (upd H7 pz (.lst (cutV xr none (some (0 + (j : Int)))))) pz 100 := by
          obtain ⟨ys, e, as, ps, h1, h2, h3, h4⟩ := (rx7.cut none (some (0 + (j : Int)))).at hpz
          exact ⟨ys, e, as, ps, h1, h2, by omega, h4⟩
        have R8 := R7.same s8
        have S78 := s7.trans s8
        generalize upd H7 pz (.lst (cutV xr none (some (0 + (j : Int))))) = H8 at *
        walk_at "vs"
        intro H9 s9
        walk_at "vs"
        exact ⟨⟨_, rfl⟩, S78.trans s9⟩
      · intro σ H7 hP
        obtain ⟨⟨t10, rfl⟩, s7⟩ := hP
        walk_at "vs"
        refine for_range (fun j σ H' => (∃ t11, σ = [some (.ref a), some (.int (0 + (i : Int))), some (.ref p), some (.ref l), some (.ref br), some (.ref nd), t6, t7, some (.ref lr), some (.int wv), t10, t11]) ∧ Same H0 H' ∧ PlAt H' p (2300 + 5 * j) ∧ H' l = some (.lst (ns.map V.str)) ∧ IsR H' br r ∧ H' lr = some (.lst xr) ∧ RdX H' xr 7) ?_ ?_ ?_
        · exact ⟨⟨_, rfl⟩, S6.trans s7, (pl6.same s7).mono (by omega), s7 _ _ el6, R6.same s7, s7 _ _ elr, rx6.same s7⟩
        · intro j σ H8 hj hP
          obtain ⟨⟨t11, rfl⟩, S8, pl8, el8, R8, elr8, rx8⟩ := hP
          have hj : j < 6 := hj
          have rl8 : RdRow H8 lr 7 := ⟨xr, elr8, rx8⟩
          walk_at "vs"
          intro l2 H9 b9 pl9 r9
          have rr : RdRow H9 l2 100 := by
            obtain ⟨ys, e, as, ps, h1, h2, h3, h4⟩ := r9
            exact ⟨ys, e, as, ps, h1, h2, by omega, h4⟩
          have S9 := but_same S8 fr b9
          have t9' := pl8.tups b9
          have R9 := R8.tups t9'
          have el9 := b9 _ _ (by simpa using nlp) el8
          have elr9 := b9 _ _ (by simpa using nlr) elr8
          walk_at "vs"
          intro H10 s10
          walk_at "vs"
          exact ⟨⟨_, rfl⟩, S9.trans s10, (pl9.same s10).mono (by omega), s10 _ _ el9, R9.same s10, s10 _ _ elr9, (rx8.tups t9').same s10⟩
        · intro σ H8 hP
          obtain ⟨⟨t11, rfl⟩, S8, _⟩ := hP
          exact ⟨⟨_, _, _, _, _, _, _, _, _, _, _, rfl⟩, S0.trans S8⟩
end

theorem fnT_mk {K : PySem.W.Frag} {h : Heap} {mg : Str → Option Value} (X : K.In h) (G : h.Ns mainGlobals mg) {x : Str} {st : Stmt} {ps : List Str} {f : Addr} {oc : Value} {od an : Option Addr} {osl : Array (Option Value)} {kV doc pm cdv ct : Value}
    (a : PySem.W.nsIn K mainGlobals x = some (some (.ref f))) (l : K.lookup f = some ⟨oc, od, .func (PySem.W.fnOf x x (defArgs st) (defBody st) (defScope st) .none kV doc pm an cdv ct), osl⟩) (c : PySem.W.codeIn K cdv x = true) (k : PySem.W.keepIn K (.ref f) = true)
    (hb : ∀ us : List Value, us.length = ps.length → bindArgs (PySem.W.fnOf x x (defArgs st) (defBody st) (defScope st) .none kV doc pm an cdv ct) ⟨us, []⟩ = pure (ps.zip us)) :
    FnT K mg x st ps f (PySem.W.fnOf x x (defArgs st) (defBody st) (defScope st) .none kV doc pm an cdv ct) :=
  ⟨fun_mk l c k, Binds.all hb, PySem.W.mg_of X G a⟩


theorem all_mk {l : PySem.W.OpenLaw} {w : World} {K : PySem.W.Frag} {h : Heap} {mg : Str → Option Value} {fa f1 f2 f3 f4 f5 f6 f7 f8 f9 f10 f11 f12 f13 f14 f15 f16 : Addr} (X : K.In h) (G : h.Ns mainGlobals mg) (hfa : mg "law" = some (.ref fa))
    {od1 an1 od2 an2 od3 an3 od4 an4 od5 an5 od6 an6 od7 an7 od8 an8 od9 an9 od10 an10 od11 an11 od12 an12 od13 an13 od14 an14 od15 an15 od16 an16 : Option Addr} {sl1 sl2 sl3 sl4 sl5 sl6 sl7 sl8 sl9 sl10 sl11 sl12 sl13 sl14 sl15 sl16 : Array (Option Value)} {oc1 kV1 dc1 pm1 cd1 ct1 oc2 kV2 dc2 pm2 cd2 ct2 oc3 kV3 dc3 pm3 cd3 ct3 oc4 kV4 dc4 pm4 cd4 ct4 oc5 kV5 dc5 pm5 cd5 ct5 oc6 kV6 dc6 pm6 cd6 ct6 oc7 kV7 dc7 pm7 cd7 ct7 oc8 kV8 dc8 pm8 cd8 ct8 oc9 kV9 dc9 pm9 cd9 ct9 oc10 kV10 dc10 pm10 cd10 ct10 oc11 kV11 dc11 pm11 cd11 ct11 oc12 kV12 dc12 pm12 cd12 ct12 oc13 kV13 dc13 pm13 cd13 ct13 oc14 kV14 dc14 pm14 cd14 ct14 oc15 kV15 dc15 pm15 cd15 ct15 oc16 kV16 dc16 pm16 cd16 ct16 : Value}
    (a1 : PySem.W.nsIn K mainGlobals "joined" = some (some (.ref f1))) (l1 : K.lookup f1 = some ⟨oc1, od1, .func (PySem.W.fnOf "joined" "joined" (defArgs s_joined) (defBody s_joined) (defScope s_joined) .none kV1 dc1 pm1 an1 cd1 ct1), sl1⟩) (c1 : PySem.W.codeIn K cd1 "joined" = true) (k1 : PySem.W.keepIn K (.ref f1) = true)
    (a2 : PySem.W.nsIn K mainGlobals "behind" = some (some (.ref f2))) (l2 : K.lookup f2 = some ⟨oc2, od2, .func (PySem.W.fnOf "behind" "behind" (defArgs s_behind) (defBody s_behind) (defScope s_behind) .none kV2 dc2 pm2 an2 cd2 ct2), sl2⟩) (c2 : PySem.W.codeIn K cd2 "behind" = true) (k2 : PySem.W.keepIn K (.ref f2) = true)
    (a3 : PySem.W.nsIn K mainGlobals "_law_pool" = some (some (.ref f3))) (l3 : K.lookup f3 = some ⟨oc3, od3, .func (PySem.W.fnOf "_law_pool" "_law_pool" (defArgs s_law_pool) (defBody s_law_pool) (defScope s_law_pool) .none kV3 dc3 pm3 an3 cd3 ct3), sl3⟩) (c3 : PySem.W.codeIn K cd3 "_law_pool" = true) (k3 : PySem.W.keepIn K (.ref f3) = true)
    (a4 : PySem.W.nsIn K mainGlobals "_law_take" = some (some (.ref f4))) (l4 : K.lookup f4 = some ⟨oc4, od4, .func (PySem.W.fnOf "_law_take" "_law_take" (defArgs s_law_take) (defBody s_law_take) (defScope s_law_take) .none kV4 dc4 pm4 an4 cd4 ct4), sl4⟩) (c4 : PySem.W.codeIn K cd4 "_law_take" = true) (k4 : PySem.W.keepIn K (.ref f4) = true)
    (a5 : PySem.W.nsIn K mainGlobals "_law_names" = some (some (.ref f5))) (l5 : K.lookup f5 = some ⟨oc5, od5, .func (PySem.W.fnOf "_law_names" "_law_names" (defArgs s_law_names) (defBody s_law_names) (defScope s_law_names) .none kV5 dc5 pm5 an5 cd5 ct5), sl5⟩) (c5 : PySem.W.codeIn K cd5 "_law_names" = true) (k5 : PySem.W.keepIn K (.ref f5) = true)
    (a6 : PySem.W.nsIn K mainGlobals "_law_leaf" = some (some (.ref f6))) (l6 : K.lookup f6 = some ⟨oc6, od6, .func (PySem.W.fnOf "_law_leaf" "_law_leaf" (defArgs s_law_leaf) (defBody s_law_leaf) (defScope s_law_leaf) .none kV6 dc6 pm6 an6 cd6 ct6), sl6⟩) (c6 : PySem.W.codeIn K cd6 "_law_leaf" = true) (k6 : PySem.W.keepIn K (.ref f6) = true)
    (a7 : PySem.W.nsIn K mainGlobals "_law_part" = some (some (.ref f7))) (l7 : K.lookup f7 = some ⟨oc7, od7, .func (PySem.W.fnOf "_law_part" "_law_part" (defArgs s_law_part) (defBody s_law_part) (defScope s_law_part) .none kV7 dc7 pm7 an7 cd7 ct7), sl7⟩) (c7 : PySem.W.codeIn K cd7 "_law_part" = true) (k7 : PySem.W.keepIn K (.ref f7) = true)
    (a8 : PySem.W.nsIn K mainGlobals "_law_recipe" = some (some (.ref f8))) (l8 : K.lookup f8 = some ⟨oc8, od8, .func (PySem.W.fnOf "_law_recipe" "_law_recipe" (defArgs s_law_recipe) (defBody s_law_recipe) (defScope s_law_recipe) .none kV8 dc8 pm8 an8 cd8 ct8), sl8⟩) (c8 : PySem.W.codeIn K cd8 "_law_recipe" = true) (k8 : PySem.W.keepIn K (.ref f8) = true)
    (a9 : PySem.W.nsIn K mainGlobals "_law_look" = some (some (.ref f9))) (l9 : K.lookup f9 = some ⟨oc9, od9, .func (PySem.W.fnOf "_law_look" "_law_look" (defArgs s_law_look) (defBody s_law_look) (defScope s_law_look) .none kV9 dc9 pm9 an9 cd9 ct9), sl9⟩) (c9 : PySem.W.codeIn K cd9 "_law_look" = true) (k9 : PySem.W.keepIn K (.ref f9) = true)
    (a10 : PySem.W.nsIn K mainGlobals "_law_gone" = some (some (.ref f10))) (l10 : K.lookup f10 = some ⟨oc10, od10, .func (PySem.W.fnOf "_law_gone" "_law_gone" (defArgs s_law_gone) (defBody s_law_gone) (defScope s_law_gone) .none kV10 dc10 pm10 an10 cd10 ct10), sl10⟩) (c10 : PySem.W.codeIn K cd10 "_law_gone" = true) (k10 : PySem.W.keepIn K (.ref f10) = true)
    (a11 : PySem.W.nsIn K mainGlobals "_law_behind" = some (some (.ref f11))) (l11 : K.lookup f11 = some ⟨oc11, od11, .func (PySem.W.fnOf "_law_behind" "_law_behind" (defArgs s_law_behind) (defBody s_law_behind) (defScope s_law_behind) .none kV11 dc11 pm11 an11 cd11 ct11), sl11⟩) (c11 : PySem.W.codeIn K cd11 "_law_behind" = true) (k11 : PySem.W.keepIn K (.ref f11) = true)
    (a12 : PySem.W.nsIn K mainGlobals "_law_all_reads" = some (some (.ref f12))) (l12 : K.lookup f12 = some ⟨oc12, od12, .func (PySem.W.fnOf "_law_all_reads" "_law_all_reads" (defArgs s_law_all_reads) (defBody s_law_all_reads) (defScope s_law_all_reads) .none kV12 dc12 pm12 an12 cd12 ct12), sl12⟩) (c12 : PySem.W.codeIn K cd12 "_law_all_reads" = true) (k12 : PySem.W.keepIn K (.ref f12) = true)
    (a13 : PySem.W.nsIn K mainGlobals "_law_kinds" = some (some (.ref f13))) (l13 : K.lookup f13 = some ⟨oc13, od13, .func (PySem.W.fnOf "_law_kinds" "_law_kinds" (defArgs s_law_kinds) (defBody s_law_kinds) (defScope s_law_kinds) .none kV13 dc13 pm13 an13 cd13 ct13), sl13⟩) (c13 : PySem.W.codeIn K cd13 "_law_kinds" = true) (k13 : PySem.W.keepIn K (.ref f13) = true)
    (a14 : PySem.W.nsIn K mainGlobals "_law_spoilt" = some (some (.ref f14))) (l14 : K.lookup f14 = some ⟨oc14, od14, .func (PySem.W.fnOf "_law_spoilt" "_law_spoilt" (defArgs s_law_spoilt) (defBody s_law_spoilt) (defScope s_law_spoilt) .none kV14 dc14 pm14 an14 cd14 ct14), sl14⟩) (c14 : PySem.W.codeIn K cd14 "_law_spoilt" = true) (k14 : PySem.W.keepIn K (.ref f14) = true)
    (a15 : PySem.W.nsIn K mainGlobals "_law_right" = some (some (.ref f15))) (l15 : K.lookup f15 = some ⟨oc15, od15, .func (PySem.W.fnOf "_law_right" "_law_right" (defArgs s_law_right) (defBody s_law_right) (defScope s_law_right) .none kV15 dc15 pm15 an15 cd15 ct15), sl15⟩) (c15 : PySem.W.codeIn K cd15 "_law_right" = true) (k15 : PySem.W.keepIn K (.ref f15) = true)
    (a16 : PySem.W.nsIn K mainGlobals "law" = some (some (.ref f16))) (l16 : K.lookup f16 = some ⟨oc16, od16, .func (PySem.W.fnOf "law" "law" (defArgs s_law) (defBody s_law) (defScope s_law) .none kV16 dc16 pm16 an16 cd16 ct16), sl16⟩) (c16 : PySem.W.codeIn K cd16 "law" = true) (k16 : PySem.W.keepIn K (.ref f16) = true)
    {CK : Addr} (ACK : PySem.W.nsIn K mainGlobals "Reckoning" = some (some (.ref CK)))
    {fCK0 : Addr} {odCK0 anCK0 : Option Addr} {slCK0 : Array (Option Value)} {ocCK0 kVCK0 dcCK0 pmCK0 cdCK0 ctCK0 : Value}
    (aCK0 : PySem.W.findIn K (.ref CK) "__init__" = some (some (.ref fCK0))) (iCK0 : PySem.W.isFn K (.ref fCK0) = true) (lCK0 : K.lookup fCK0 = some ⟨ocCK0, odCK0, .func (PySem.W.fnOf "__init__" "Reckoning.__init__" (defArgs s__init__) (defBody s__init__) (defScope s__init__) .none kVCK0 dcCK0 pmCK0 anCK0 cdCK0 ctCK0), slCK0⟩) (cCK0 : PySem.W.codeIn K cdCK0 "Reckoning.__init__" = true) (kCK0 : PySem.W.keepIn K (.ref fCK0) = true)
    {fCK1 : Addr} {odCK1 anCK1 : Option Addr} {slCK1 : Array (Option Value)} {ocCK1 kVCK1 dcCK1 pmCK1 cdCK1 ctCK1 : Value}
    (aCK1 : PySem.W.findIn K (.ref CK) "lacking" = some (some (.ref fCK1))) (iCK1 : PySem.W.isFn K (.ref fCK1) = true) (lCK1 : K.lookup fCK1 = some ⟨ocCK1, odCK1, .func (PySem.W.fnOf "lacking" "Reckoning.lacking" (defArgs s_lacking) (defBody s_lacking) (defScope s_lacking) .none kVCK1 dcCK1 pmCK1 anCK1 cdCK1 ctCK1), slCK1⟩) (cCK1 : PySem.W.codeIn K cdCK1 "Reckoning.lacking" = true) (kCK1 : PySem.W.keepIn K (.ref fCK1) = true)
    {fCK2 : Addr} {odCK2 anCK2 : Option Addr} {slCK2 : Array (Option Value)} {ocCK2 kVCK2 dcCK2 pmCK2 cdCK2 ctCK2 : Value}
    (aCK2 : PySem.W.findIn K (.ref CK) "go_on" = some (some (.ref fCK2))) (iCK2 : PySem.W.isFn K (.ref fCK2) = true) (lCK2 : K.lookup fCK2 = some ⟨ocCK2, odCK2, .func (PySem.W.fnOf "go_on" "Reckoning.go_on" (defArgs s_go_on) (defBody s_go_on) (defScope s_go_on) .none kVCK2 dcCK2 pmCK2 anCK2 cdCK2 ctCK2), slCK2⟩) (cCK2 : PySem.W.codeIn K cdCK2 "Reckoning.go_on" = true) (kCK2 : PySem.W.keepIn K (.ref fCK2) = true)
    (pgCK : PySem.W.plainGet K CK Str.empty = true) (hdCK : PySem.W.hasDictIn K CK = true) (poCK : PySem.W.plainOver K CK = true) (saCK : PySem.W.findIn K (.ref CK) "__setattr__" = some (some (.builtin "object.__setattr__"))) (mkCK : PySem.W.makesIn K CK = true) (kcCK : PySem.W.keepIn K (.ref CK) = true)
    (nCK_todo : PySem.W.findIn K (.ref CK) "todo" = some none)
    (nCK_found : PySem.W.findIn K (.ref CK) "found" = some none)
    (nCK_reads : PySem.W.findIn K (.ref CK) "reads" = some none)
    {CT : Addr} (aT : PySem.W.nsIn K mainGlobals "NoText" = some (some (.ref CT)))
    {CM : Addr} (aM : PySem.W.nsIn K mainGlobals "MadeError" = some (some (.ref CM)))
    {CD : Addr} (aD : PySem.W.nsIn K mainGlobals "NoDeed" = some (some (.ref CD)))
    {CN : Addr} (aN : PySem.W.nsIn K mainGlobals "NoName" = some (some (.ref CN)))
    {CR1 : Addr} (aR1 : PySem.W.nsIn K mainGlobals "NoRead" = some (some (.ref CR1)))
    {CR2 : Addr} (aR2 : PySem.W.nsIn K mainGlobals "NoRecord" = some (some (.ref CR2)))
    {CR3 : Addr} (aR3 : PySem.W.nsIn K mainGlobals "NoRow" = some (some (.ref CR3)))
    {CR4 : Addr} (aR4 : PySem.W.nsIn K mainGlobals "Ring" = some (some (.ref CR4)))
    {nmT qT : Str} {NT : Addr} {bsT bmT : List Value} {hdT : Bool} {snT : List Str} {subT : List Value} {abT : Bool} {colT : Option Bool} {ddT : Option Addr} {k0T k1T k2T k3T k5T : Option Value}
    (lkT : K.lookup CR1 = some (excClassObj nmT qT CR1 NT bsT bmT hdT snT subT abT colT ddT k0T k1T k2T k3T k5T "ValueError.__new__"))
    (nkT : PySem.W.nsOkIn K NT = true)
    (ikT : PySem.W.nsIn K NT "__init__" = some none)
    (tkT : PySem.W.tailIn K [.type "ValueError", .type "Exception", .type "BaseException", .type "object"] bmT = true)
    (xk1 : PySem.W.findIn K (.ref CR1) "__getattribute__" = some (some (.builtin "BaseException.__getattribute__")))
    (xk2 : PySem.W.findIn K (.ref CR1) "__getattr__" = some none)
    (xk3 : PySem.W.findIn K (.ref CR1) "__class__" = some (some (.builtin "object.__class__")))
    (xk4 : PySem.W.mroIn K CR1 (.type "BaseException") = some true)
    (xk5 : PySem.W.mroIn K CR1 (.type "object") = some true)
    (xk6 : (PySem.W.clsIn K CR1).isSome = true)
    (x1 : PySem.W.exmOne K (.ref CR1) (.ref CM) = some true)
    (x2 : PySem.W.kitOne K (.ref CR1) (.ref CR1) = some true)
    (x3 : PySem.W.kitOne K (.ref CR1) (.type "ValueError") = some true)
    (x4 : PySem.W.kitOne K (.ref CR1) (.ref CN) = some false)
    (x5 : PySem.W.kitOne K (.ref CR1) (.ref CR4) = some false)
    (x6 : PySem.W.kitOne K (.ref CR1) (.ref CT) = some false)
    (x7 : PySem.W.kitOne K (.ref CR1) (.ref CR3) = some false)
    (x8 : PySem.W.kitOne K (.ref CR1) (.ref CR2) = some false)
    (x9 : PySem.W.kitOne K (.ref CR1) (.ref CD) = some false)
    (zV : PySem.W.nsIn K mainGlobals "ValueError" = some none)
    (z_len : PySem.W.nsIn K mainGlobals "len" = some none)
    (z_range : PySem.W.nsIn K mainGlobals "range" = some none)
    (z_str : PySem.W.nsIn K mainGlobals "str" = some none)
    (z_int : PySem.W.nsIn K mainGlobals "int" = some none)
    (z_list : PySem.W.nsIn K mainGlobals "list" = some none)
    (z_tuple : PySem.W.nsIn K mainGlobals "tuple" = some none)
    (z_isinstance : PySem.W.nsIn K mainGlobals "isinstance" = some none)
    (z_bool : PySem.W.nsIn K mainGlobals "bool" = some none)
    (z_dict : PySem.W.nsIn K mainGlobals "dict" = some none)
    (z_sum : PySem.W.nsIn K mainGlobals "sum" = some none)
    (z_all : PySem.W.nsIn K mainGlobals "all" = some none)
    (z_any : PySem.W.nsIn K mainGlobals "any" = some none)
    (z_max : PySem.W.nsIn K mainGlobals "max" = some none)
    (z_min : PySem.W.nsIn K mainGlobals "min" = some none)
    (z_sorted : PySem.W.nsIn K mainGlobals "sorted" = some none)
    (z_set : PySem.W.nsIn K mainGlobals "set" = some none)
    (z_enumerate : PySem.W.nsIn K mainGlobals "enumerate" = some none)
    (z_zip : PySem.W.nsIn K mainGlobals "zip" = some none)
    (z_reversed : PySem.W.nsIn K mainGlobals "reversed" = some none)
    (z_abs : PySem.W.nsIn K mainGlobals "abs" = some none)
    : ∃ fd : FuncData, (∀ (s : Shared) (v : Value), BindsTo s fd ⟨[v], []⟩ [("script", v)]) ∧ ∀ base : Heap, K.In base → base.Ns mainGlobals mg → FnOk l.prog w K mg base CX0 13 fa fd ["script"] (spLaw K) := by
  have e := hfa.symm.trans (PySem.W.mg_of X G a16)
  cases e
  have T_joined : FnT K mg "joined" s_joined ["kind", "r", "s"] _ _ := fnT_mk X G a1 l1 c1 k1 (fun us hl => match us, hl with | [_, _, _], _ => rfl)
  have T_behind : FnT K mg "behind" s_behind ["r", "reads"] _ _ := fnT_mk X G a2 l2 c2 k2 (fun us hl => match us, hl with | [_, _], _ => rfl)
  have T_law_pool : FnT K mg "_law_pool" s_law_pool ["script", "k"] _ _ := fnT_mk X G a3 l3 c3 k3 (fun us hl => match us, hl with | [_, _], _ => rfl)
  have T_law_take : FnT K mg "_law_take" s_law_take ["pool", "many"] _ _ := fnT_mk X G a4 l4 c4 k4 (fun us hl => match us, hl with | [_, _], _ => rfl)
  have T_law_names : FnT K mg "_law_names" s_law_names ["pool"] _ _ := fnT_mk X G a5 l5 c5 k5 (fun us hl => match us, hl with | [_], _ => rfl)
  have T_law_leaf : FnT K mg "_law_leaf" s_law_leaf ["pool", "names", "most"] _ _ := fnT_mk X G a6 l6 c6 k6 (fun us hl => match us, hl with | [_, _, _], _ => rfl)
  have T_law_part : FnT K mg "_law_part" s_law_part ["pool", "names", "deep", "most"] _ _ := fnT_mk X G a7 l7 c7 k7 (fun us hl => match us, hl with | [_, _, _, _], _ => rfl)
  have T_law_recipe : FnT K mg "_law_recipe" s_law_recipe ["pool", "names", "most"] _ _ := fnT_mk X G a8 l8 c8 k8 (fun us hl => match us, hl with | [_, _, _], _ => rfl)
  have T_law_look : FnT K mg "_law_look" s_law_look ["name", "state"] _ _ := fnT_mk X G a9 l9 c9 k9 (fun us hl => match us, hl with | [_, _], _ => rfl)
  have T_law_gone : FnT K mg "_law_gone" s_law_gone ["r", "state"] _ _ := fnT_mk X G a10 l10 c10 k10 (fun us hl => match us, hl with | [_, _], _ => rfl)
  have T_law_behind : FnT K mg "_law_behind" s_law_behind ["r", "reads"] _ _ := fnT_mk X G a11 l11 c11 k11 (fun us hl => match us, hl with | [_, _], _ => rfl)
  have T_law_all_reads : FnT K mg "_law_all_reads" s_law_all_reads ["r", "numbers"] _ _ := fnT_mk X G a12 l12 c12 k12 (fun us hl => match us, hl with | [_, _], _ => rfl)
  have T_law_kinds : FnT K mg "_law_kinds" s_law_kinds ["caught", "due"] _ _ := fnT_mk X G a13 l13 c13 k13 (fun us hl => match us, hl with | [_, _], _ => rfl)
  have T_law_spoilt : FnT K mg "_law_spoilt" s_law_spoilt ["reads", "names", "pool"] _ _ := fnT_mk X G a14 l14 c14 k14 (fun us hl => match us, hl with | [_, _, _], _ => rfl)
  have T_law_right : FnT K mg "_law_right" s_law_right ["r", "reads"] _ _ := fnT_mk X G a15 l15 c15 k15 (fun us hl => match us, hl with | [_, _], _ => rfl)
  have T_law : FnT K mg "law" s_law ["script"] _ _ := fnT_mk X G a16 l16 c16 k16 (fun us hl => match us, hl with | [_], _ => rfl)
  have T__init__ : MthT K CK "__init__" "Reckoning.__init__" s__init__ ["self", "r"] _ _ := ⟨fun_mk lCK0 cCK0 kCK0, Binds.all (fun us hl => match us, hl with | [_, _], _ => rfl), ⟨aCK0, iCK0, kCK0⟩⟩
  have T_lacking : MthT K CK "lacking" "Reckoning.lacking" s_lacking ["self", "known"] _ _ := ⟨fun_mk lCK1 cCK1 kCK1, Binds.all (fun us hl => match us, hl with | [_, _], _ => rfl), ⟨aCK1, iCK1, kCK1⟩⟩
  have T_go_on : MthT K CK "go_on" "Reckoning.go_on" s_go_on ["self", "step"] _ _ := ⟨fun_mk lCK2 cCK2 kCK2, Binds.all (fun us hl => match us, hl with | [_, _], _ => rfl), ⟨aCK2, iCK2, kCK2⟩⟩
  have clCK : Cls K CK := ⟨pgCK, hdCK, poCK, saCK⟩
  have M_Reckoning : Mk K CK _ := ⟨mkCK, aCK0, iCK0, kcCK⟩
  have mgReckoning := PySem.W.mg_of X G ACK
  have T : Blt mg := ⟨PySem.W.mg_none_of X G z_len, PySem.W.mg_none_of X G z_range, PySem.W.mg_none_of X G z_str, PySem.W.mg_none_of X G z_int, PySem.W.mg_none_of X G z_list, PySem.W.mg_none_of X G z_tuple, PySem.W.mg_none_of X G z_isinstance, PySem.W.mg_none_of X G z_bool, PySem.W.mg_none_of X G z_dict, PySem.W.mg_none_of X G z_sum, PySem.W.mg_none_of X G z_all, PySem.W.mg_none_of X G z_any, PySem.W.mg_none_of X G z_max, PySem.W.mg_none_of X G z_min, PySem.W.mg_none_of X G z_sorted, PySem.W.mg_none_of X G z_set, PySem.W.mg_none_of X G z_enumerate, PySem.W.mg_none_of X G z_zip, PySem.W.mg_none_of X G z_reversed, PySem.W.mg_none_of X G z_abs⟩
  refine ⟨PySem.W.fnOf "law" "law" (defArgs s_law) (defBody s_law) (defScope s_law) .none kV16 dc16 pm16 an16 cd16 ct16, fun s v => .of_eq rfl, fun base _ _ => ?_⟩
  have cN : ExC K CR1 := ⟨⟨_, _, _, _, _, _, _, _, _, _, _, _, _, _, _, _, lkT, nkT, ikT, tkT⟩⟩
  have xk : ExK K CR1 := ⟨xk1, xk2, xk3, xk4, xk5, xk6⟩
  have mR := PySem.W.mg_of X G aR1
  have rc : RkC K CK := ⟨clCK, nCK_todo, nCK_found, nCK_reads⟩
  have D1 := ok_joined (P := l.prog) (w := w) (base := base) T_joined T
  have D2 := ok__init__ (P := l.prog) (w := w) (base := base) (mg := mg) T__init__ rc
  have D3 := ok_go_on (P := l.prog) (w := w) (base := base) T_go_on T_joined D1 T rc
  have D4 := ok_lacking (P := l.prog) (w := w) (base := base) T_lacking T_go_on D3 T rc
  have D5 := ok_behind (P := l.prog) (w := w) (base := base) T_behind T__init__ D2 T_lacking D4 M_Reckoning mgReckoning T rc cN mR
  have E1 := ok_law_pool (P := l.prog) (w := w) (base := base) T_law_pool T
  have E2 := ok_law_take (P := l.prog) (w := w) (base := base) T_law_take T
  have E3 := ok_law_leaf (P := l.prog) (w := w) (base := base) T_law_leaf T_law_take E2 T
  have E4 := ok_law_partA (P := l.prog) (w := w) (base := base) T_law_part T_law_take E2 T_law_leaf E3 T
  have E5 := ok_law_recipe (P := l.prog) (w := w) (base := base) T_law_recipe T_law_take E2 T_law_leaf E3 T_law_part E4 T
  have E6 := ok_law_names (P := l.prog) (w := w) (base := base) T_law_names T_law_take E2 T
  have E7 := ok_law_look (P := l.prog) (w := w) (base := base) T_law_look T
  have E8 := ok_law_gone (P := l.prog) (w := w) (base := base) T_law_gone T_law_look E7 T 8
  have E9 := ok_law_behind (P := l.prog) (w := w) (base := base) T_law_behind T_law_gone E8 T
  have F1 := ok_law_all_reads (P := l.prog) (w := w) (base := base) T_law_all_reads T_law_behind E9 T
  have F2 := ok_law_kinds (P := l.prog) (w := w) (base := base) T_law_kinds T xk (PySem.W.mg_none_of X G zV) (PySem.W.mg_of X G aT) (PySem.W.mg_of X G aD) (PySem.W.mg_of X G aN) mR (PySem.W.mg_of X G aR2) (PySem.W.mg_of X G aR3) (PySem.W.mg_of X G aR4) x2 x3 x4 x5 x6 x7 x8 x9
  have F3 := ok_law_spoilt (P := l.prog) (w := w) (base := base) T_law_spoilt T_law_take E2 T
  have F4 := ok_law_right (P := l.prog) (w := w) (base := base) T_law_right T_law_behind E9 T_behind D5 T_law_kinds F2 T xk (PySem.W.mg_of X G aM) x1
  exact ok_law T_law T_law_pool E1 T_law_take E2 T_law_names E6 T_law_recipe E5 T_law_all_reads F1 T_law_right F4 T_law_spoilt F3 T
theorem walk {l : PySem.W.OpenLaw} {q : Program} {loose : List Str} {XP : (Str → Option Value) → Heap → Prop} {YP : World → Heap → Prop} {d : DefRec} {K : Params → PySem.W.Frag} (hn : l.most = some 63) (hdf : d.params.defaults = [])
    (hY : ∀ (w : World) (h : Heap), YP w h → (K w.params).In h)
    (F : ∀ (w : World) (mg : Str → Option Value) (fa : Addr) (h : Heap), (K w.params).In h → h.Ns mainGlobals mg → mg d.name = some (.ref fa) →
      ∃ fd : FuncData, (∀ (s : Shared) (u : Value), BindsTo s fd ⟨[u], []⟩ [("script", u)]) ∧ ∀ base : Heap, (K w.params).In base → base.Ns mainGlobals mg → FnOk l.prog w (K w.params) mg base CX0 13 fa fd ["script"] (spLaw (K w.params))) :
    PySem.W.WalkO q loose XP YP l.row.toRowW d [] (fun f vs => PySem.call f vs) :=
  L2.walk_of (n := 63) (k := 13) (x := "script") (CX := fun _ => CX0) (sp := fun w => spLaw (K w.params)) hn (by decide) hdf ⟨rfl, by decide, by decide⟩ hY F (fun _ _ a ns hl _ hS => ⟨a, ns, rfl, hS, hl, fun _ => rfl⟩) fun _ _ _ _ _ z => z
end K50
open PySem PySem.W PyProof.Rows
set_option maxRecDepth 100000 in
set_option maxHeartbeats 0 in
theorem PySem.Challenge.cw_madeagain_k50_behind_any_reads_holds : PySem.Challenge.rw_madeagain_k50_behind_any_reads.Holds := by
  w_on; o_law; k_head; (case hw => w_witness2)
  k_fill
  refine K50.walk (l := PySem.Challenge.rw_madeagain_k50_behind_any_reads) rfl rfl (fun w h Y => PySem.W.kIn_of Y) ?F
  case F =>
    intro w mg fa h KX G hmg
    refine' K50.all_mk KX G hmg ?a1 ?l1 ?c1 ?k1 ?a2 ?l2 ?c2 ?k2 ?a3 ?l3 ?c3 ?k3 ?a4 ?l4 ?c4 ?k4 ?a5 ?l5 ?c5 ?k5 ?a6 ?l6 ?c6 ?k6 ?a7 ?l7 ?c7 ?k7 ?a8 ?l8 ?c8 ?k8 ?a9 ?l9 ?c9 ?k9 ?a10 ?l10 ?c10 ?k10 ?a11 ?l11 ?c11 ?k11 ?a12 ?l12 ?c12 ?k12 ?a13 ?l13 ?c13 ?k13 ?a14 ?l14 ?c14 ?k14 ?a15 ?l15 ?c15 ?k15 ?a16 ?l16 ?c16 ?k16 ?ACK ?aCK0 ?iCK0 ?lCK0 ?cCK0 ?kCK0 ?aCK1 ?iCK1 ?lCK1 ?cCK1 ?kCK1 ?aCK2 ?iCK2 ?lCK2 ?cCK2 ?kCK2 ?pgCK ?hdCK ?poCK ?saCK ?mkCK ?kcCK ?nCK_todo ?nCK_found ?nCK_reads ?aT ?aM ?aD ?aN ?aR1 ?aR2 ?aR3 ?aR4 ?lkT ?nkT ?ikT ?tkT ?xk1 ?xk2 ?xk3 ?xk4 ?xk5 ?xk6 ?x1 ?x2 ?x3 ?x4 ?x5 ?x6 ?x7 ?x8 ?x9 ?zV ?z_len ?z_range ?z_str ?z_int ?z_list ?z_tuple ?z_isinstance ?z_bool ?z_dict ?z_sum ?z_all ?z_any ?z_max ?z_min ?z_sorted ?z_set ?z_enumerate ?z_zip ?z_reversed ?z_abs
    (case a1 => k_is); (case l1 => k_is); (case c1 => k_is); (case k1 => k_is)
    (case a2 => k_is); (case l2 => k_is); (case c2 => k_is); (case k2 => k_is)
    (case a3 => k_is); (case l3 => k_is); (case c3 => k_is); (case k3 => k_is)
    (case a4 => k_is); (case l4 => k_is); (case c4 => k_is); (case k4 => k_is)
    (case a5 => k_is); (case l5 => k_is); (case c5 => k_is); (case k5 => k_is)
    (case a6 => k_is); (case l6 => k_is); (case c6 => k_is); (case k6 => k_is)
    (case a7 => k_is); (case l7 => k_is); (case c7 => k_is); (case k7 => k_is)
    (case a8 => k_is); (case l8 => k_is); (case c8 => k_is); (case k8 => k_is)
    (case a9 => k_is); (case l9 => k_is); (case c9 => k_is); (case k9 => k_is)
    (case a10 => k_is); (case l10 => k_is); (case c10 => k_is); (case k10 => k_is)
    (case a11 => k_is); (case l11 => k_is); (case c11 => k_is); (case k11 => k_is)
    (case a12 => k_is); (case l12 => k_is); (case c12 => k_is); (case k12 => k_is)
    (case a13 => k_is); (case l13 => k_is); (case c13 => k_is); (case k13 => k_is)
    (case a14 => k_is); (case l14 => k_is); (case c14 => k_is); (case k14 => k_is)
    (case a15 => k_is); (case l15 => k_is); (case c15 => k_is); (case k15 => k_is)
    (case a16 => k_is); (case l16 => k_is); (case c16 => k_is); (case k16 => k_is)
    (case ACK => k_is); (case aCK0 => k_is); (case iCK0 => k_is); (case lCK0 => k_is); (case cCK0 => k_is); (case kCK0 => k_is); (case aCK1 => k_is); (case iCK1 => k_is); (case lCK1 => k_is); (case cCK1 => k_is); (case kCK1 => k_is); (case aCK2 => k_is); (case iCK2 => k_is); (case lCK2 => k_is); (case cCK2 => k_is); (case kCK2 => k_is); (case pgCK => k_is); (case hdCK => k_is); (case poCK => k_is); (case saCK => k_is); (case mkCK => k_is); (case kcCK => k_is); (case nCK_todo => k_is); (case nCK_found => k_is); (case nCK_reads => k_is)
    (case aT => k_is)
    (case aM => k_is)
    (case aD => k_is)
    (case aN => k_is)
    (case aR1 => k_is)
    (case aR2 => k_is)
    (case aR3 => k_is)
    (case aR4 => k_is)
    (case lkT => k_is)
    (case nkT => kernel_rfl)
    (case ikT => kernel_rfl)
    (case tkT => kernel_rfl)
    (case xk1 => kernel_rfl)
    (case xk2 => kernel_rfl)
    (case xk3 => kernel_rfl)
    (case xk4 => kernel_rfl)
    (case xk5 => kernel_rfl)
    (case xk6 => kernel_rfl)
    (case x1 => kernel_rfl)
    (case x2 => kernel_rfl)
    (case x3 => kernel_rfl)
    (case x4 => kernel_rfl)
    (case x5 => kernel_rfl)
    (case x6 => kernel_rfl)
    (case x7 => kernel_rfl)
    (case x8 => kernel_rfl)
    (case x9 => kernel_rfl)
    (case zV => k_is)
    (case z_len => k_is); (case z_range => k_is); (case z_str => k_is); (case z_int => k_is); (case z_list => k_is); (case z_tuple => k_is); (case z_isinstance => k_is); (case z_bool => k_is); (case z_dict => k_is); (case z_sum => k_is); (case z_all => k_is); (case z_any => k_is); (case z_max => k_is); (case z_min => k_is); (case z_sorted => k_is); (case z_set => k_is); (case z_enumerate => k_is); (case z_zip => k_is); (case z_reversed => k_is); (case z_abs => k_is)

