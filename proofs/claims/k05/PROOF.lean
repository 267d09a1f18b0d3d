import PyProof.Rows.All
import Wide.All
import OpenK.AllK
import Wide.FinOn
import Lean
import PyProof.EqAt
import PyProof.EqKinds
import PyProof.TupleCall
import KE.KTops
import KE.KIntText
import KE.KTryMore
import PyProof.ExcBaseAll.ValueError
import PyProof.Rows.SetFrom
import PyProof.Rows.SortStr
import PyProof.Rows.SortRunsK
import PyProof.CollectWalk
import PyProof.Rows.SortWalk
import PyProof.ZipIter
import KE.KTurns
import KE.KxText
import PyProof.Rows.SumGenD
import KE.KDictList
import PyProof.DictWalks
import KE.KEqDict
import KE.KDictOf
import PyProof.WalksEnum
import PyProof.DictItems
import PySem.Challenge.RW_madeagain_k05_whole_recipes_put_together
set_option Elab.async false
set_option linter.all false
set_option maxRecDepth 100000
/-! THE HAND LAYER, for ints, bools, texts, own classes, LISTS and tuples (index, slices, in, append, pop ..), calls, loops. Paste it whole ahead of your own text; what your proof does not reach may be deleted. -/
namespace L2
open PySem PySem.Spec PyProof.Rows

/-- a key: an int or a str -/
noncomputable abbrev Key := Sum Int Str
noncomputable def keyIs : Key → Value → Bool
  | .inl k, v => Value.isInt k v
  | .inr x, v => Value.isStrOf x v
noncomputable def keyH (w : World) : Key → Int
  | .inl k => hashInt k
  | .inr x => hashStr w x
theorem keyIs_shape : ∀ {k : Key} {v : Value}, keyIs k v = true → (∃ i t, k = Sum.inl i ∧ v = Value.int i t) ∨ (∃ x t, k = Sum.inr x ∧ v = Value.str x t)
  | .inl i, v, h => by
    obtain ⟨t, e⟩ := Value.isInt_shape (k := i) (v := v) h
    exact .inl ⟨i, t, rfl, e⟩
  | .inr x, v, h => by
    obtain ⟨t, e⟩ := Value.isStrOf_shape (x := x) (v := v) h
    exact .inr ⟨x, t, rfl, e⟩
theorem keyIs_int (i : Int) (t : Tok) : keyIs (.inl i) (.int i t) = true := by simp [keyIs, Value.isInt]
theorem keyIs_str (x : Str) (t : Tok) : keyIs (.inr x) (.str x t) = true := by simp [keyIs, Value.isStrOf]
theorem key_ll (a b : Int) : decide ((Sum.inl a : Key) = Sum.inl b) = (a == b) := by
  by_cases e : a = b
  · subst e; simp
  · have h : ¬ (Sum.inl a : Key) = Sum.inl b := fun q => e (Sum.inl.inj q)
    rw [decide_eq_false h]
    exact (beq_eq_false_iff_ne.mpr e).symm
theorem key_rr (a b : Str) : decide ((Sum.inr a : Key) = Sum.inr b) = decide (a = b) := by
  by_cases e : a = b
  · subst e; simp
  · have h : ¬ (Sum.inr a : Key) = Sum.inr b := fun q => e (Sum.inr.inj q)
    rw [decide_eq_false h, decide_eq_false e]
theorem key_lr (a : Int) (b : Str) : decide ((Sum.inl a : Key) = Sum.inr b) = false := decide_eq_false (fun q => nomatch q)
theorem key_rl (a : Str) (b : Int) : decide ((Sum.inr a : Key) = Sum.inl b) = false := decide_eq_false (fun q => nomatch q)

noncomputable def mixKind (prog : Program) (w : World) : PySem.KeyKind prog w Key where
  is := keyIs
  hash := keyH w
  inj := fun v a b ha hb => by
    rcases keyIs_shape ha with ⟨i, t, rfl, rfl⟩ | ⟨x, t, rfl, rfl⟩
    · rcases keyIs_shape hb with ⟨j, u, rfl, e⟩ | ⟨y, u, rfl, e⟩
      · injection e with e1 _; rw [e1]
      · exact nomatch e
    · rcases keyIs_shape hb with ⟨j, u, rfl, e⟩ | ⟨y, u, rfl, e⟩
      · exact nomatch e
      · injection e with e1 _; rw [e1]
  byValue := fun k v h => by
    rcases keyIs_shape h with ⟨i, t, rfl, rfl⟩ | ⟨x, t, rfl, rfl⟩ <;> rfl
  pyHash := fun hv h => by
    rcases keyIs_shape hv with ⟨i, t, rfl, rfl⟩ | ⟨x, t, rfl, rfl⟩
    · exact wpAny_pyHash_int h
    · exact wpAny_pyHash_str h
  eqBool := fun hu hv h => by
    rcases keyIs_shape hu with ⟨i, t, rfl, rfl⟩ | ⟨x, t, rfl, rfl⟩
    · rcases keyIs_shape hv with ⟨j, u, rfl, rfl⟩ | ⟨y, u, rfl, rfl⟩
      · rw [key_ll] at h; exact wpAny_eqBool_int h
      · rw [key_lr] at h; exact SeqAt.EqAt.int_str i t y u _ _ _ _ h
    · rcases keyIs_shape hv with ⟨j, u, rfl, rfl⟩ | ⟨y, u, rfl, rfl⟩
      · rw [key_rl] at h; exact SeqAt.EqAt.str_int x t j u _ _ _ _ h
      · rw [key_rr] at h; exact wpAny_eqBool_str h
  «strs» := fun k x t v h => by
    rcases keyIs_shape h with ⟨i, u, rfl, e⟩ | ⟨y, u, rfl, e⟩
    · exact nomatch e
    · injection e with e1 _
      subst e1
      cases v <;> rfl

theorem mixKind_int (prog : Program) (w : World) (i : Int) (t : Tok) : (mixKind prog w).is (.inl i) (.int i t) = true := keyIs_int i t
theorem mixKind_str (prog : Program) (w : World) (x : Str) (t : Tok) : (mixKind prog w).is (.inr x) (.str x t) = true := keyIs_str x t
end L2

namespace L2
open PySem PySem.Spec PyProof.Rows

/-- a value, without the heap -/
inductive V where
  | non | bl (b : Bool) | int (i : Int) | str (x : Str) | byt (b : Array UInt8) | flt (b : UInt64) | ref (a : Addr) | ty (n : String)
  deriving DecidableEq

noncomputable def RelV : V → Value → Prop
  | .non, u => u = Value.none
  | .bl b, u => u = Value.bool b
  | .int i, u => ∃ t, u = Value.int i t
  | .str x, u => ∃ t, u = Value.str x t
  | .byt b, u => ∃ t, u = Value.bytes b t
  | .flt b, u => ∃ t, u = Value.float b t
  | .ref a, u => u = Value.ref a
  | .ty n, u => u = Value.type n

noncomputable abbrev Vals : List V → List Value → Prop := Paired RelV
theorem Vals.length {xs : List V} {us : List Value} (r : Vals xs us) : xs.length = us.length := Paired.length r
theorem Vals.get : ∀ {xs : List V} {us : List Value} {i : Nat} {x : V}, Vals xs us → xs[i]? = some x → ∃ u, us[i]? = some u ∧ RelV x u
  | _, _, _, _, .nil, e => by simp at e
  | _, _, 0, _, .cons r _, e => by simp at e; subst e; exact ⟨_, rfl, r⟩
  | _, _, i + 1, x, .cons _ t, e => by
    obtain ⟨u, h1, h2⟩ := Vals.get (i := i) (x := x) t (by simpa using e)
    exact ⟨u, by simpa using h1, h2⟩
theorem Vals.set {x : V} {u : Value} (r : RelV x u) : ∀ {xs : List V} {us : List Value} (i : Nat), Vals xs us → Vals (xs.set i x) (us.set i u)
  | _, _, _, .nil => .nil
  | _, _, 0, .cons _ t => .cons r t
  | _, _, i + 1, .cons q t => .cons q (Vals.set r i t)
theorem Vals.append : ∀ {xs ys : List V} {us ws : List Value}, Vals xs us → Vals ys ws → Vals (xs ++ ys) (us ++ ws)
  | _, _, _, _, .nil, s => s
  | _, _, _, _, .cons r t, s => .cons r (Vals.append t s)
theorem Vals.take : ∀ {xs : List V} {us : List Value} (n : Nat), Vals xs us → Vals (xs.take n) (us.take n)
  | _, _, 0, _ => .nil
  | _, _, _ + 1, .nil => .nil
  | _, _, n + 1, .cons r t => .cons r (Vals.take n t)
theorem Vals.drop : ∀ {xs : List V} {us : List Value} (n : Nat), Vals xs us → Vals (xs.drop n) (us.drop n)
  | _, _, 0, r => r
  | _, _, _ + 1, .nil => .nil
  | _, _, n + 1, .cons _ t => Vals.drop n t

noncomputable def RelO : Option V → Option Value → Prop
  | some v, some u => RelV v u
  | none, none => True
  | _, _ => False
noncomputable def KV {κ : Type} : List (κ × V) → List (κ × Value) → Prop := Paired fun (p : κ × V) (q : κ × Value) => p.1 = q.1 ∧ RelV p.2 q.2

/-- a key of a dict (00_mix): an int or a text -/
noncomputable def kV : Key → V
  | .inl i => .int i
  | .inr x => .str x

/-- what stands at a tracked address -/
inductive HO where
  /-- a list -/
  | lst (xs : List V)
  /-- a tuple (never changes) -/
  | tup (xs : List V)
  /-- a dict whose keys are ints and texts; one whose keys are tuples of ints and texts (the empty one is both) -/
  | dK (kvs : List (Key × V)) | dT (kvs : List (List Key × V))
  /-- a set of ints: its members, its size -/
  | set (S : Int → Bool) (n : Nat)
  /-- an instance of the class at C, its dict at dx, its attributes -/
  | ins (C dx : Addr) (fs : List (Str × V))
  /-- the dict of the instance at x -/
  | own (x : Addr)
  /-- the dict of an exception -/
  | xd (fs : List (Str × V))
  /-- a bound method, f of x -/
  | met (f x : Addr)
  /-- a range object lo, lo + 1, .. below hi -/
  | rng (lo hi : Int)
  /-- a thing that is known to the object (the script; a dict while a loop walks it): read, never written while it is so -/
  | frz (o : Obj) (u : HO)
  /-- a code object's table -/
  | tbl (ps : Array Value)
  /-- any other thing, by what is true of its one object (a def of one's own: SetO a S n := HO.ext fun h => ..) -/
  | ext (φ : Heap → Prop)

noncomputable abbrev Hp := Addr → Option HO
noncomputable def upd (H : Hp) (a : Addr) (o : HO) : Hp := fun b => if b = a then some o else H b
theorem upd_same {H : Hp} {a : Addr} {o : HO} : upd H a o a = some o := by unfold upd; rw [if_pos rfl]
theorem upd_ne {H : Hp} {a b : Addr} {o : HO} (h : b ≠ a) : upd H a o b = H b := by unfold upd; rw [if_neg h]
/-- two objects of different content stand apart -/
theorem ne_of {H : Hp} {a b : Addr} {o u : HO} (h : H a = some o) (h' : H b = some u) (d : o ≠ u) : a ≠ b := by
  intro e; subst e; rw [h] at h'; exact d (Option.some.inj h')
theorem ne_of_none {H : Hp} {a b : Addr} {o : HO} (h : H a = some o) (h' : H b = none) : a ≠ b := by
  intro e; subst e; rw [h] at h'; cases h'

section
variable (P : Program) (w : World)
noncomputable def ObjOk (H : Hp) (h : Heap) (a : Addr) : HO → Prop
  | .lst xs => xs.length ≤ sizeLine ∧ ∃ (its : List Value) (n : Nat), Vals xs its ∧ h.get? a = some { cls := .type "list", data := .seq its.toArray n }
  | .tup xs => xs.length ≤ sizeLine ∧ ∃ its : List Value, Vals xs its ∧ IsTup h a its.toArray
  | .dK kvs => kvs.length ≤ sizeLine ∧ (a == sysModules) = false ∧ ∃ vs, KV kvs vs ∧ h.DictOf (mixKind P w) a vs
  | .dT kvs => kvs.length ≤ sizeLine ∧ (a == sysModules) = false ∧ ∃ xs : List (List Key × Addr × Value),
      Paired (fun (p : List Key × V) (q : List Key × Addr × Value) => p.1 = q.1 ∧ H q.2.1 = some (.tup (p.1.map kV)) ∧ RelV p.2 q.2.2) kvs xs ∧
      ∃ o es ep, h.get? a = some o ∧ o.ExactDict ∧ o.data = .dict es ep ∧ es.toList = xs.map (entryOfKey (tupleKind (mixKind P w))) ∧ (xs.map (·.1)).Nodup
  | .set S n => h.SetOf (intKind P w) a S n
  | .ins C dx fs => H dx = some (.own a) ∧ fs.length ≤ 1000 ∧ dx ≠ a ∧ h.get? a = some (PySem.W.instObj C dx) ∧
      ∃ mA, h.Ns1 dx mA ∧ (∀ f, RelO (fs.lookup f) (mA f)) ∧ PySem.Within mA (fs.map (·.1))
  | .own _ => ∃ o, h.get? a = some o
  | .xd fs => ∃ mA, h.Ns1 a mA ∧ ∀ f, RelO (fs.lookup f) (mA f)
  | .rng lo hi => ∃ t u v, h.get? a = some { cls := .type "range", data := .fields #[.int lo t, .int hi u, .int 1 v] }
  | .frz o u => h.get? a = some o ∧ ObjOk H h a u
  | .tbl ps => h.get? a = some { cls := .none, data := .fields ps }
  | .met f x => h.get? a = some (PySem.W.methodObj (.ref f) (.ref x))
  | .ext φ => φ h ∧ (∃ o, h.get? a = some o) ∧ ∀ h1 h2 : Heap, φ h1 → (∀ o, h1.get? a = some o → h2.get? a = some o) → φ h2
/-- the abstract heap is held -/
noncomputable def HOk (H : Hp) (h : Heap) : Prop := ∀ a o, H a = some o → ObjOk P w H h a o
end

section
variable {P : Program} {w : World} {H H' : Hp} {h h' : Heap} {a : Addr} {o : HO}
theorem ObjOk.lt (x : ObjOk P w H h a o) : a < h.objs.size := by
  cases o with
  | lst xs => obtain ⟨_, _, _, _, e⟩ := x; exact Heap.lt_size e
  | tup xs => obtain ⟨_, _, _, p⟩ := x; exact p.lt
  | dK kvs => obtain ⟨_, _, _, _, o, _, _, e, _⟩ := x; exact Heap.lt_size e
  | dT kvs => obtain ⟨_, _, _, _, o, _, _, e, _⟩ := x; exact Heap.lt_size e
  | set S n => obtain ⟨o, _, _, _, e, _⟩ := x; exact Heap.lt_size e
  | ins C dx fs => obtain ⟨_, _, _, e, _⟩ := x; exact Heap.lt_size e
  | own y => obtain ⟨_, e⟩ := x; exact Heap.lt_size e
  | xd fs => obtain ⟨_, ⟨_, _, _, e, _⟩, _⟩ := x; exact Heap.lt_size e
  | rng lo hi => obtain ⟨_, _, _, e⟩ := x; exact Heap.lt_size e
  | frz ob u => obtain ⟨e, _⟩ := x; exact Heap.lt_size e
  | tbl ps => exact Heap.lt_size (show h.get? a = some _ from x)
  | met f y => exact Heap.lt_size (show h.get? a = some _ from x)
  | ext φ => obtain ⟨_, ⟨_, e⟩, _⟩ := x; exact Heap.lt_size e
theorem Paired.mapP {α β : Type} {F G : α → β → Prop} : ∀ {l₁ : List α} {l₂ : List β}, Paired F l₁ l₂ → (∀ a b, F a b → G a b) → Paired G l₁ l₂
  | _, _, .nil, _ => .nil
  | _, _, .cons r t, f => .cons (f _ _ r) (Paired.mapP t f)
/-- what an object's description leans on: its own object, its own dict, the tuples -/
theorem ObjOk.stay (x : ObjOk P w H h a o) (k : ∀ b u, (b = a ∨ H b = some (.own a)) → h.get? b = some u → h'.get? b = some u)
    (ho : ∀ b, H b = some (.own a) → H' b = some (.own a)) (ht : ∀ b xs, H b = some (.tup xs) → H' b = some (.tup xs)) : ObjOk P w H' h' a o := by
  induction o with
  | lst xs => obtain ⟨z, its, n, r, e⟩ := x; exact ⟨z, its, n, r, k _ _ (.inl rfl) e⟩
  | tup xs => obtain ⟨z, its, r, ob, e, c⟩ := x; exact ⟨z, its, r, ob, k _ _ (.inl rfl) e, c⟩
  | dK kvs => obtain ⟨z, y, vs, r, ob, es, ep, e, c⟩ := x; exact ⟨z, y, vs, r, ob, es, ep, k _ _ (.inl rfl) e, c⟩
  | dT kvs =>
    obtain ⟨z, y, xs, r, ob, es, ep, e, c⟩ := x
    exact ⟨z, y, xs, Paired.mapP r fun p q z => ⟨z.1, ht _ _ z.2.1, z.2.2⟩, ob, es, ep, k _ _ (.inl rfl) e, c⟩
  | set S n => obtain ⟨ob, es, ep, t, e, c⟩ := x; exact ⟨ob, es, ep, t, k _ _ (.inl rfl) e, c⟩
  | ins C dx fs =>
    obtain ⟨d, z, ne, e, mA, ⟨od, es, ep, e2, c⟩, r⟩ := x
    exact ⟨ho _ d, z, ne, k _ _ (.inl rfl) e, mA, ⟨od, es, ep, k _ _ (.inr d) e2, c⟩, r⟩
  | own y => obtain ⟨ob, e⟩ := x; exact ⟨ob, k _ _ (.inl rfl) e⟩
  | xd fs => obtain ⟨mA, ⟨od, es, ep, e, c⟩, r⟩ := x; exact ⟨mA, ⟨od, es, ep, k _ _ (.inl rfl) e, c⟩, r⟩
  | rng lo hi => obtain ⟨t, u, v, e⟩ := x; exact ⟨t, u, v, k _ _ (.inl rfl) e⟩
  | frz ob u ih => obtain ⟨e, q⟩ := x; exact ⟨k _ _ (.inl rfl) e, ih q⟩
  | tbl ps =>
    have e : h.get? a = some { cls := .none, data := .fields ps } := x
    show h'.get? a = some { cls := .none, data := .fields ps }
    exact k a _ (.inl rfl) e
  | met f y =>
    have e : h.get? a = some (PySem.W.methodObj (.ref f) (.ref y)) := x
    show h'.get? a = some (PySem.W.methodObj (.ref f) (.ref y))
    exact k a _ (.inl rfl) e
  | ext φ => obtain ⟨p, ⟨o, e⟩, st⟩ := x; exact ⟨st _ _ p fun o q => k _ _ (.inl rfl) q, ⟨o, k _ _ (.inl rfl) e⟩, st⟩
theorem HOk.lt (x : HOk P w H h) (e : H a = some o) : a < h.objs.size := (x a o e).lt
theorem HOk.fresh (x : HOk P w H h) (e : h.objs.size ≤ a) : H a = none := by
  cases q : H a with
  | none => rfl
  | some u => exact absurd (Nat.lt_of_lt_of_le (x.lt q) e) (Nat.lt_irrefl _)
/-- every object of the heap is kept -/
theorem HOk.kept (x : HOk P w H h) (k : ∀ b u, h.get? b = some u → h'.get? b = some u) : HOk P w H h' := fun a o e =>
  (x a o e).stay (fun b u _ q => k b u q) (fun _ q => q) fun _ _ q => q
/-- a new object is laid and tracked -/
theorem HOk.laid (x : HOk P w H h) (k : ∀ b u, h.get? b = some u → h'.get? b = some u) (hp : h.objs.size ≤ a) (new : ObjOk P w (upd H a o) h' a o) : HOk P w (upd H a o) h' := fun b u e => by
  have hn := x.fresh hp
  by_cases hb : b = a
  · subst hb; rw [upd_same] at e; cases e; exact new
  · rw [upd_ne hb] at e
    exact (x b u e).stay (fun c v _ q => k c v q) (fun c q => by rw [upd_ne (ne_of_none q hn)]; exact q) fun c xs q => by rw [upd_ne (ne_of_none q hn)]; exact q
end

/-- what may be read as u: it is u, or a known u -/
noncomputable def Rd (H : Hp) (a : Addr) (u : HO) : Prop := H a = some u ∨ ∃ o, H a = some (.frz o u)
theorem Rd.ok {P : Program} {w : World} {H : Hp} {h : Heap} {a : Addr} {u : HO} (r : Rd H a u) (x : HOk P w H h) : ObjOk P w H h a u := by
  rcases r with r | ⟨o, r⟩
  · exact x a u r
  · obtain ⟨_, q⟩ := x a _ r
    exact q
/-- what may be written -/
noncomputable def Mut : Option HO → Prop
  | some (.lst _) => True
  | some (.dK _) => True
  | some (.dT _) => True
  | some (.set _ _) => True
  | some (.ins _ _ _) => True
  | some (.ext _) => True
  | _ => False
section
variable {P : Program} {w : World} {H : Hp} {h h' : Heap} {x e : Addr} {o' : HO}
/-- the object at e is changed: x itself, or the dict of the instance x -/
theorem HOk.write (ok : HOk P w H h) (mu : Mut (H x)) (he : e = x ∨ H e = some (.own x)) (k : ∀ b u, b ≠ e → h.get? b = some u → h'.get? b = some u) (heo : ∃ u, h'.get? e = some u)
    (new : ObjOk P w (upd H x o') h' x o') : HOk P w (upd H x o') h' := fun b u q => by
  have nown : ∀ c y, H c = some (.own y) → c ≠ x := fun c y r z => by subst z; rw [r] at mu; exact mu
  have ntup : ∀ c xs, H c = some (.tup xs) → c ≠ x := fun c xs r z => by subst z; rw [r] at mu; exact mu
  by_cases hb : b = x
  · subst hb; rw [upd_same] at q; cases q; exact new
  · rw [upd_ne hb] at q
    by_cases hbe : b = e
    · have q' : H b = some (.own x) := by
        rcases he with z | z
        · exact absurd (hbe.trans z) hb
        · rw [hbe]; exact z
      rw [q] at q'; cases q'
      obtain ⟨v, hv⟩ := heo
      exact ⟨v, by rw [hbe]; exact hv⟩
    · refine (ok b u q).stay (fun c v hc r => k c v ?_ r) (fun c r => by rw [upd_ne (nown c b r)]; exact r) fun c xs r => by rw [upd_ne (ntup c xs r)]; exact r
      rcases hc with rfl | hc
      · exact hbe
      · rintro rfl
        rcases he with z | z
        · exact nown c b hc z
        · rw [hc] at z; cases z; exact hb rfl
end

/-! ### kept unless tracked; of the frames at fs (the callers') the slots may change (an exception that passes writes there); of the records at ex (iterators) nothing is said -/
structure Un (fs ex : List Addr) (H H' : Hp) (h h' : Heap) : Prop where
  keep : ∀ b o, h.get? b = some o → H b = none → b ∉ fs → b ∉ ex → h'.get? b = some o
  slot : ∀ b o, h.get? b = some o → H b = none → b ∈ fs → b ∉ ex → ∃ sl, h'.get? b = some { o with slots := sl }
  free : ∀ b o, h.get? b = some o → H b = none → b ∉ ex → H' b = none
  there : ∀ b o, h.get? b = some o → b ∉ ex → ∃ o', h'.get? b = some o'
  tups : ∀ b xs, H b = some (.tup xs) → H' b = some (.tup xs)
  frzs : ∀ b o u, H b = some (.frz o u) → H' b = some (.frz o u)
  tbls : ∀ b ps, H b = some (.tbl ps) → ∃ more, H' b = some (.tbl (ps ++ more))
section
variable {fs fs' ex ex' : List Addr} {H H1 H2 : Hp} {h h1 h2 h' : Heap} {a x e : Addr} {o : HO}
theorem Un.any (u : Un fs ex H H1 h h1) {b : Addr} {ob : Obj} (q : h.get? b = some ob) (n : H b = none) (hx : b ∉ ex) : ∃ sl, h1.get? b = some { ob with slots := sl } := by
  by_cases hb : b ∈ fs
  · exact u.slot b ob q n hb hx
  · exact ⟨ob.slots, u.keep b ob q n hb hx⟩
theorem Un.kept (k : ∀ b u, h.get? b = some u → h'.get? b = some u) : Un fs ex H H h h' :=
  ⟨fun b ob q _ _ _ => k b ob q, fun b ob q _ _ _ => ⟨ob.slots, k b ob q⟩, fun _ _ _ n _ => n, fun b ob q _ => ⟨ob, k b ob q⟩, fun _ _ q => q, fun _ _ _ q => q, fun _ ps q => ⟨#[], by rw [q]; simp⟩⟩
theorem Un.refl : Un fs ex H H h h := Un.kept fun _ _ q => q
theorem Un.laid (k : ∀ b u, h.get? b = some u → h'.get? b = some u) (hp : h.objs.size ≤ a) (hn : H a = none) : Un fs ex H (upd H a o) h h' where
  keep := fun b u q _ _ _ => k b u q
  slot := fun b u q _ _ _ => ⟨u.slots, k b u q⟩
  free := fun b u q n _ => by rw [upd_ne (Nat.ne_of_lt (Nat.lt_of_lt_of_le (Heap.lt_size q) hp))]; exact n
  there := fun b u q _ => ⟨u, k b u q⟩
  tups := fun b xs q => by rw [upd_ne (ne_of_none q hn)]; exact q
  frzs := fun b u xs q => by rw [upd_ne (ne_of_none q hn)]; exact q
  tbls := fun b ps q => ⟨#[], by rw [upd_ne (ne_of_none q hn), q]; simp⟩
theorem Un.write (mu : Mut (H x)) (he : e = x ∨ H e = some (.own x)) (k : ∀ b u, b ≠ e → h.get? b = some u → h'.get? b = some u) (heo : ∃ u, h'.get? e = some u) : Un fs ex H (upd H x o) h h' := by
  have hx : ∀ b, H b = none → b ≠ x := fun b n z => by subst z; rw [n] at mu; exact mu
  have hb : ∀ b, H b = none → b ≠ e := fun b n z => by
    subst z
    rcases he with r | r
    · exact hx b n r
    · rw [n] at r; cases r
  have hm : ∀ b u, H b = some u → ¬ Mut (some u) → b ≠ x := fun b u q nm z => by subst z; rw [q] at mu; exact nm mu
  refine ⟨fun b u q n _ _ => k b u (hb b n) q, fun b u q n _ _ => ⟨u.slots, k b u (hb b n) q⟩, fun b u q n _ => by rw [upd_ne (hx b n)]; exact n, fun b u q _ => ?_,
    fun b xs q => by rw [upd_ne (hm b _ q fun z => z)]; exact q, fun b u xs q => by rw [upd_ne (hm b _ q fun z => z)]; exact q, fun b ps q => ⟨#[], by rw [upd_ne (hm b _ q fun z => z), q]; simp⟩⟩
  by_cases hbe : b = e
  · subst hbe; exact heo
  · exact ⟨u, k b u hbe q⟩
end

/-! ### the heap without what is tracked -/
noncomputable def trk (h : Heap) (H : Hp) : List Addr := (List.range h.objs.size).filter fun a => (H a).isSome
noncomputable def hidT (h : Heap) (H : Hp) : Heap := PySem.W.hideAll h (trk h H)
theorem hidT_size (h : Heap) (H : Hp) : (hidT h H).objs.size = h.objs.size := PySem.W.hideAll_size _ _
theorem hidT_get {h : Heap} {H : Hp} {b : Addr} {o : Obj} (e : h.get? b = some o) (n : H b = none) : (hidT h H).get? b = some o :=
  PySem.W.hideAll_get _ e fun hm => by
    have q : (H b).isSome = true := (List.mem_filter.mp hm).2
    rw [n] at q; simp at q
theorem of_hidT {h : Heap} {H : Hp} {b : Addr} {o : Obj} (e : (hidT h H).get? b = some o) : h.get? b = some o ∧ H b = none := by
  have e' : h.get? b = some o := PySem.W.of_hideAll (trk h H) e
  refine ⟨e', ?_⟩
  cases q : H b with
  | none => rfl
  | some x =>
    have hm : b ∈ trk h H := List.mem_filter.mpr ⟨List.mem_range.mpr (Heap.lt_size e'), by simp [q]⟩
    have z : (hidT h H).get? b = none := PySem.W.hideAll_none (trk h H) hm
    rw [z] at e; cases e

/-! ### OpenK's ledger, filled with every new object but one -/
end L2

namespace L2
open PySem PySem.Spec PyProof.Rows

/-- the module's facts, over the base: the heap at the law's entry without what is tracked there -/
structure Mod (K : PySem.W.Frag) (mg : Str → Option Value) (base : Heap) : Prop where
  kin : K.In base
  glob : base.Ns mainGlobals mg
  blt : ∃ mb, base.Ns builtinsNs mb ∧ ∀ x : Str, x ≠ "__name__" → mb x = bootBuiltins x
  nolimit : base.NoLimit

/-- the context: a def's body (or a comprehension's block) running. base: fixed through the whole law; s₀, H₀: the entry; outer: the frames whose slots others may change (a def's callers); stack: all frames that run;
   ex: iterators that were made ahead of the entry and are walked here (a comprehension's); fn: the names whose cells were made at the entry (a def: all; a comprehension's block: its own); calm: not within an except suite; pn: pins that every state bears; xe: what is wanted of an exception that leaves the code -/
structure Cx where
  prog : Program
  w : World
  K : PySem.W.Frag
  mg : Str → Option Value
  base : Heap
  A : Around
  N : List Str
  s₀ : Shared
  H₀ : Hp
  env : Env
  outer : List Env
  stack : List Env
  ex : List Addr
  fn : Str → Bool
  calm : Bool
  pn : List (Addr × Obj)
  xe : Value → Shared → Prop
/-- the callers' frames -/
noncomputable def frs (l : List Env) : List Addr := l.filterMap (·.frame)
noncomputable abbrev Cx.fs (X : Cx) : List Addr := frs X.outer

noncomputable def Vis (sc : Scope) (x : Str) : Prop := sc.names.lookup x = some .local ∨ sc.names.lookup x = some .cell ∨ sc.names.lookup x = some .free
noncomputable def Loc (sc : Scope) (x : Str) : Prop := sc.names.lookup x = some .local ∨ sc.names.lookup x = some .cell
noncomputable def Look (env : Env) (h : Heap) (m : Str → Option Value) (x : Str) (u : Value) : Prop :=
  (env.kindOf x = some .local ∧ m x = some u) ∨ ((env.kindOf x = some .cell ∨ env.kindOf x = some .free) ∧ ∃ c, env.cells.lookup x = some c ∧ h.IsCell c (some u))

structure Cx.Ok (X : Cx) : Prop where
  mod : Mod X.K X.mg X.base
  kind : X.env.scope.kind = .function
  glob : X.env.globals = mainGlobals
  blt : X.env.builtins = builtinsNs
  above : X.s₀.heap.objs.size ≤ X.env.locals
  inj : ∀ x y c, X.env.cells.lookup x = some c → X.env.cells.lookup y = some c → x = y
  has : ∀ x, (X.env.kindOf x = some .cell ∨ X.env.kindOf x = some .free) → ∃ c, X.env.cells.lookup x = some c
  cab : ∀ x c, X.fn x = true → X.env.cells.lookup x = some c → X.s₀.heap.objs.size ≤ c
  hd : X.calm = true → X.A.handled = none
  frames : X.A.frames = some X.stack
  stk : X.stack = X.outer ∨ (X.stack = X.env :: X.outer ∧ X.env.frame = some X.env.locals)
  exf : ∀ b ∈ X.ex, b ≠ X.env.locals ∧ ∀ x c, X.env.cells.lookup x = some c → c ≠ b
  bs : ∀ b o, X.base.get? b = some o → X.s₀.heap.get? b = some o ∧ X.H₀ b = none
  bsz : X.base.objs.size ≤ X.s₀.heap.objs.size
  noex : ∀ b o, X.base.get? b = some o → b ∉ X.ex
  exfs : ∀ b ∈ X.ex, b ∉ X.fs
  funs : X.s₀.heap.FunFrames X.base X.outer
  frf : ∀ b ∈ X.fs, X.H₀ b = none

structure Inv (X : Cx) (pins : List (Addr × Obj)) (σ : List (Option V)) (H : Hp) (s : Shared) : Prop where
  ok : X.Ok
  os : s.os = X.s₀.os
  bare : AllBare s.gens
  base : Un X.fs X.ex X.H₀ H X.s₀.heap s.heap
  loc : ∃ m, s.heap.Ns X.env.locals m ∧ ∀ (i : Nat) (x : Str) (v : V), X.N[i]? = some x → σ[i]? = some (some v) → Vis X.env.scope x → ∃ u, RelV v u ∧ Look X.env s.heap m x u
  cell : ∀ x c, X.env.cells.lookup x = some c → ∃ v, s.heap.IsCell c v
  free : H X.env.locals = none
  freeC : ∀ x c, X.env.cells.lookup x = some c → H c = none
  pin : ∀ p ∈ X.pn ++ pins, s.heap.get? p.1 = some p.2 ∧ H p.1 = none ∧ p.1 ≠ X.env.locals ∧ p.1 ∉ X.fs ∧ ∀ v, p.2.data ≠ .cell v
  hok : HOk X.prog X.w H s.heap
  len : σ.length = X.N.length

section
variable {X : Cx} {pins : List (Addr × Obj)} {σ : List (Option V)} {H H' : Hp} {s : Shared} {h' : Heap}

theorem Cx.Ok.nofr (ok : X.Ok) {b : Addr} {o : Obj} (e : X.base.get? b = some o) : b ∉ X.fs := fun hb => by
  have := (ok.funs.mem hb).1
  rw [e] at this; cases this
theorem Inv.bs (I : Inv X pins σ H s) : ∀ b o, X.base.get? b = some o → s.heap.get? b = some o ∧ H b = none := fun b o e =>
  ⟨I.base.keep b o (I.ok.bs b o e).1 (I.ok.bs b o e).2 (I.ok.nofr e) (I.ok.noex b o e), I.base.free b o (I.ok.bs b o e).1 (I.ok.bs b o e).2 (I.ok.noex b o e)⟩
theorem Inv.bk (I : Inv X pins σ H s) : ∀ b o, X.base.get? b = some o → s.heap.get? b = some o := fun b o e => (I.bs b o e).1
theorem Inv.mod (I : Inv X pins σ H s) : Mod X.K X.mg X.base := I.ok.mod
theorem Inv.kIn (I : Inv X pins σ H s) : X.K.In s.heap := I.ok.mod.kin.keeps I.bk
theorem Inv.lt (I : Inv X pins σ H s) : X.env.locals < s.heap.objs.size := let ⟨_, hn, _⟩ := I.loc; hn.lt
theorem Inv.sz (I : Inv X pins σ H s) : X.s₀.heap.objs.size ≤ s.heap.objs.size := Nat.le_trans I.ok.above (Nat.le_of_lt I.lt)
theorem Inv.nofs (I : Inv X pins σ H s) {a : Addr} (h : s.heap.objs.size ≤ a) : a ∉ X.fs := fun hb => by
  obtain ⟨_, o, ho, _⟩ := I.ok.funs.mem hb
  exact absurd (Nat.lt_of_lt_of_le (Heap.lt_size ho) (Nat.le_trans I.sz h)) (Nat.lt_irrefl _)
theorem Inv.cne (I : Inv X pins σ H s) : ∀ x c, X.env.cells.lookup x = some c → c ≠ X.env.locals := fun x c e z => by
  obtain ⟨v, o, ho, hd⟩ := I.cell x c e
  obtain ⟨m, ⟨o', es, ep, ho', hd', _⟩, _⟩ := I.loc
  rw [z, ho'] at ho; cases ho; rw [hd'] at hd; cases hd
theorem Inv.funs (I : Inv X pins σ H s) : s.heap.FunFrames X.base X.outer := by
  have all : ∀ (l : List Env), (∀ b ∈ frs l, b ∈ X.fs) → X.s₀.heap.FunFrames X.base l → s.heap.FunFrames X.base l := by
    intro l
    induction l with
    | nil => intro _ _; trivial
    | cons env r ih =>
      intro hs hl
      obtain ⟨hk, ⟨L, o, hf, hn, ho, hd⟩, hr⟩ := hl
      have hL : L ∈ X.fs := hs L (by unfold frs; rw [List.filterMap_cons, hf]; exact List.mem_cons_self)
      obtain ⟨sl, e⟩ := I.base.slot L o ho (I.ok.frf L hL) hL fun z => I.ok.exfs L z hL
      exact ⟨hk, ⟨L, _, hf, hn, e, hd⟩, ih (fun b hb => hs b (by unfold frs; rw [List.filterMap_cons, hf]; exact List.mem_cons_of_mem _ hb)) hr⟩
  exact all X.outer (fun _ hb => hb) I.ok.funs

/-- the frames that run, for a call -/
theorem Inv.stack (I : Inv X pins σ H s) : s.heap.FunFrames X.base X.stack := by
  rcases I.ok.stk with e | ⟨e, hf⟩
  · rw [e]; exact I.funs
  · rw [e]
    obtain ⟨m, hn, _⟩ := I.loc
    refine .cons (by rw [I.ok.kind]; decide) hf hn ?_ I.funs
    exact Heap.get?_none_of_le (Nat.le_trans I.ok.bsz I.ok.above)
theorem Inv.stkSub (I : Inv X pins σ H s) : ∀ b ∈ frs X.stack, b ∈ X.env.locals :: X.fs := fun b hb => by
  rcases I.ok.stk with e | ⟨e, hf⟩
  · rw [e] at hb; exact List.mem_cons_of_mem _ hb
  · rw [e] at hb
    unfold frs at hb
    rw [List.filterMap_cons, hf] at hb
    exact hb
theorem Inv.stkFree (I : Inv X pins σ H s) : ∀ b ∈ frs X.stack, H b = none := fun b hb => by
  rcases List.mem_cons.mp (I.stkSub b hb) with e | hb
  · rw [e]; exact I.free
  · obtain ⟨_, o, ho, _⟩ := I.ok.funs.mem hb
    exact I.base.free b o ho (I.ok.frf b hb) fun z => I.ok.exfs b z hb

/-- THE STEP: the untracked objects but the frame and the records at ch are kept (the callers' frames up to slots), the frame's map is kept, the new abstract heap is held -/
theorem Inv.step {g' : Array GenState} {t' : Nat} {d' : Drawn} {ch : List Addr} (I : Inv X pins σ H s)
    (hch : ∀ b ∈ ch, (b ∈ X.ex ∨ X.s₀.heap.objs.size ≤ b) ∧ b ≠ X.env.locals ∧ (∀ x c, X.env.cells.lookup x = some c → c ≠ b) ∧ ∀ p ∈ X.pn ++ pins, p.1 ≠ b)
    (keep : ∀ b o, b ≠ X.env.locals → b ∉ X.fs → b ∉ ch → s.heap.get? b = some o → H b = none → h'.get? b = some o)
    (slot : ∀ b o, b ≠ X.env.locals → b ∈ X.fs → b ∉ ch → s.heap.get? b = some o → H b = none → ∃ sl, h'.get? b = some { o with slots := sl }) (free : ∀ b o, b ∉ ch → s.heap.get? b = some o → H b = none → H' b = none)
    (there : ∀ b o, b ∉ ch → s.heap.get? b = some o → ∃ o', h'.get? b = some o')
    (tups : ∀ b xs, H b = some (.tup xs) → H' b = some (.tup xs)) (frzs : ∀ b o u, H b = some (.frz o u) → H' b = some (.frz o u)) (tbls : ∀ b ps, H b = some (.tbl ps) → ∃ more, H' b = some (.tbl (ps ++ more)))
    (ns : ∀ m, s.heap.Ns X.env.locals m → h'.Ns X.env.locals m) (hok : HOk X.prog X.w H' h') (hg : AllBare g') :
    Inv X pins σ H' { s with heap := h', gens := g', drawn := d', toks := t' } := by
  have neL : ∀ b o, X.s₀.heap.get? b = some o → b ≠ X.env.locals := fun b o e => Nat.ne_of_lt (Nat.lt_of_lt_of_le (Heap.lt_size e) I.ok.above)
  have neC : ∀ b o, X.s₀.heap.get? b = some o → b ∉ X.ex → b ∉ ch := fun b o e hx hb => by
    rcases (hch b hb).1 with z | z
    · exact hx z
    · exact absurd (Nat.lt_of_lt_of_le (Heap.lt_size e) z) (Nat.lt_irrefl _)
  have cellK : ∀ x c, X.env.cells.lookup x = some c → ∀ v, s.heap.IsCell c v → h'.IsCell c v := fun x c e v ⟨o, ho, hd⟩ => by
    have nch : c ∉ ch := fun z => (hch c z).2.2.1 x c e rfl
    by_cases hc : c ∈ X.fs
    · obtain ⟨sl, q⟩ := slot c o (I.cne x c e) hc nch ho (I.freeC x c e)
      exact ⟨_, q, hd⟩
    · exact ⟨o, keep c o (I.cne x c e) hc nch ho (I.freeC x c e), hd⟩
  refine ⟨I.ok, I.os, hg, ⟨fun b o e n hb hx => ?_, fun b o e n hb hx => ?_, fun b o e n hx => ?_, fun b o e hx => ?_, fun b xs e => tups b xs (I.base.tups b xs e), fun b o xs e => frzs b o xs (I.base.frzs b o xs e), fun b ps e => ?_⟩, ?_, fun x c e => ?_, ?_, fun x c e => ?_, fun p hp => ?_, hok, I.len⟩
  · exact keep b o (neL b o e) hb (neC b o e hx) (I.base.keep b o e n hb hx) (I.base.free b o e n hx)
  · obtain ⟨sl, e1⟩ := I.base.slot b o e n hb hx
    obtain ⟨sl', e2⟩ := slot b _ (neL b o e) hb (neC b o e hx) e1 (I.base.free b o e n hx)
    exact ⟨sl', e2⟩
  · obtain ⟨o', e1⟩ := I.base.there b o e hx
    exact free b o' (neC b o e hx) e1 (I.base.free b o e n hx)
  · obtain ⟨o', e1⟩ := I.base.there b o e hx
    exact there b o' (neC b o e hx) e1
  · obtain ⟨m1, e1⟩ := I.base.tbls b ps e
    obtain ⟨m2, e2⟩ := tbls b _ e1
    exact ⟨m1 ++ m2, by rw [e2, Array.append_assoc]⟩
  · obtain ⟨m, hn, hl⟩ := I.loc
    refine ⟨m, ns m hn, fun i x v e1 e2 e3 => ?_⟩
    obtain ⟨u, r, l⟩ := hl i x v e1 e2 e3
    refine ⟨u, r, ?_⟩
    rcases l with l | ⟨k, c, e, z⟩
    · exact .inl l
    · exact .inr ⟨k, c, e, cellK x c e _ z⟩
  · obtain ⟨v, z⟩ := I.cell x c e
    exact ⟨v, cellK x c e v z⟩
  · obtain ⟨m, ⟨o, _, _, ho, _⟩, _⟩ := I.loc
    exact free _ o (fun z => (hch _ z).2.1 rfl) ho I.free
  · obtain ⟨v, o, ho, hd⟩ := I.cell x c e
    exact free c o (fun z => (hch c z).2.2.1 x c e rfl) ho (I.freeC x c e)
  · obtain ⟨e, n, ne, nf, d⟩ := I.pin p hp
    have nch : p.1 ∉ ch := fun z => (hch p.1 z).2.2.2 p hp rfl
    exact ⟨keep p.1 p.2 ne nf nch e n, free p.1 p.2 nch e n, ne, nf, d⟩
/-- .. where the frame's own object is kept too -/
theorem Inv.un {t' : Nat} (I : Inv X pins σ H s) (u : Un X.fs [] H H' s.heap h') (hok : HOk X.prog X.w H' h') : Inv X pins σ H' { s with heap := h', toks := t' } := by
  obtain ⟨m, ⟨o, es, ep, ho, r⟩, _⟩ := id I.loc
  obtain ⟨sl, hL⟩ := u.any ho I.free (by simp)
  exact I.step (g' := s.gens) (d' := s.drawn) (ch := []) (fun _ z => nomatch z) (fun b o _ hb _ e n => u.keep b o e n hb (by simp)) (fun b o _ hb _ e n => u.slot b o e n hb (by simp)) (fun b o _ e n => u.free b o e n (by simp)) (fun b o _ e => u.there b o e (by simp)) u.tups u.frzs u.tbls (fun m' hm => by
    obtain ⟨o', es', ep', ho', r'⟩ := hm
    rw [ho] at ho'; cases ho'
    exact ⟨_, es', ep', hL, r'⟩) hok I.bare
/-- behind a call (or a comprehension's block): the slots of this frame may have changed too, the records at ch may have turned -/
theorem Inv.call {g' : Array GenState} {t' : Nat} {d' : Drawn} {ch : List Addr} (I : Inv X pins σ H s) (u : Un (frs X.stack) ch H H' s.heap h') (hok : HOk X.prog X.w H' h') (hg : AllBare g')
    (hch : ∀ b ∈ ch, (b ∈ X.ex ∨ X.s₀.heap.objs.size ≤ b) ∧ b ≠ X.env.locals ∧ (∀ x c, X.env.cells.lookup x = some c → c ≠ b) ∧ ∀ p ∈ X.pn ++ pins, p.1 ≠ b) :
    Inv X pins σ H' { s with heap := h', gens := g', drawn := d', toks := t' } := by
  obtain ⟨m, ⟨o, es, ep, ho, r⟩, _⟩ := id I.loc
  obtain ⟨sl, hL⟩ := u.any ho I.free fun z => (hch _ z).2.1 rfl
  exact I.step (ch := ch) hch (fun b o hL hb hc e n => u.keep b o e n (fun z => (List.mem_cons.mp (I.stkSub b z)).elim hL hb) hc) (fun b o _ _ hc e n => u.any e n hc) (fun b o hc e n => u.free b o e n hc) (fun b o hc e => u.there b o e hc) u.tups u.frzs u.tbls (fun m' hm => by
    obtain ⟨o', es', ep', ho', r'⟩ := hm
    rw [ho] at ho'; cases ho'
    exact ⟨_, es', ep', hL, r'⟩) hok hg
/-- an untracked record of ours (an iterator) has turned -/
theorem Inv.turned {t' : Nat} {it : Addr} (I : Inv X pins σ H s) (k : ∀ b o, b ≠ it → s.heap.get? b = some o → h'.get? b = some o) (hn : H it = none) (hL : it ≠ X.env.locals)
    (h1 : it ∈ X.ex ∨ X.s₀.heap.objs.size ≤ it) (h2 : ∀ x c, X.env.cells.lookup x = some c → c ≠ it) (h3 : ∀ p ∈ X.pn ++ pins, p.1 ≠ it) : Inv X pins σ H { s with heap := h', toks := t' } := by
  have nit : ∀ b u, H b = some u → b ≠ it := fun b u e z => by rw [z, hn] at e; cases e
  refine I.step (g' := s.gens) (d' := s.drawn) (ch := [it]) (fun b hb => ?_) (fun b o _ _ hc e _ => k b o (fun z => hc (by simp [z])) e) (fun b o _ _ hc e _ => ⟨o.slots, k b o (fun z => hc (by simp [z])) e⟩) (fun _ _ _ _ n => n)
    (fun b o hc e => ⟨o, k b o (fun z => hc (by simp [z])) e⟩) (fun _ _ e => e) (fun _ _ _ e => e) (fun b ps e => ⟨#[], by rw [e]; simp⟩) (fun m hm => ?_) (fun b u e => ?_) I.bare
  · have e : b = it := by simpa using hb
    subst e
    exact ⟨h1, hL, h2, h3⟩
  · obtain ⟨o, es, ep, ho, r⟩ := hm
    exact ⟨o, es, ep, k _ o (Ne.symm hL) ho, r⟩
  · refine (I.hok b u e).stay (fun c v hc q => k c v ?_ q) (fun _ q => q) fun _ _ q => q
    rcases hc with z | z
    · rw [z]; exact nit b u e
    · exact nit c _ z
theorem Inv.tok (I : Inv X pins σ H s) (t : Nat) : Inv X pins σ H { s with toks := t } := I.un (h' := s.heap) (t' := t) Un.refl I.hok
/-- all objects kept -/
theorem Inv.kept {t' : Nat} (I : Inv X pins σ H s) (k : ∀ b u, s.heap.get? b = some u → h'.get? b = some u) : Inv X pins σ H { s with heap := h', toks := t' } := I.un (Un.kept k) (I.hok.kept k)
/-- a new object laid and tracked -/
theorem Inv.laid {a : Addr} {o : HO} {t' : Nat} (I : Inv X pins σ H s) (k : ∀ b u, s.heap.get? b = some u → h'.get? b = some u) (hp : s.heap.objs.size ≤ a) (new : ObjOk X.prog X.w (upd H a o) h' a o) :
    Inv X pins σ (upd H a o) { s with heap := h', toks := t' } := I.un (Un.laid k hp (I.hok.fresh hp)) (I.hok.laid k hp new)
/-- an object written -/
theorem Inv.write {x e : Addr} {o : HO} {t' : Nat} (I : Inv X pins σ H s) (mu : Mut (H x)) (he : e = x ∨ H e = some (.own x)) (k : ∀ b u, b ≠ e → s.heap.get? b = some u → h'.get? b = some u) (heo : ∃ u, h'.get? e = some u)
    (new : ObjOk X.prog X.w (upd H x o) h' x o) : Inv X pins σ (upd H x o) { s with heap := h', toks := t' } := I.un (Un.write mu he k heo) (I.hok.write mu he k heo new)
theorem Inv.pins_of {pins' : List (Addr × Obj)} (I : Inv X pins σ H s) (h : ∀ p ∈ pins', s.heap.get? p.1 = some p.2 ∧ H p.1 = none ∧ p.1 ≠ X.env.locals ∧ p.1 ∉ X.fs ∧ ∀ v, p.2.data ≠ .cell v) : Inv X pins' σ H s :=
  ⟨I.ok, I.os, I.bare, I.base, I.loc, I.cell, I.free, I.freeC, fun p hp => (List.mem_append.mp hp).elim (fun z => I.pin p (List.mem_append_left _ z)) (h p), I.hok, I.len⟩

theorem nodup_ix {N : List Str} (hN : N.Nodup) {i j : Nat} {x : Str} (a : N[i]? = some x) (b : N[j]? = some x) : i = j := by
  obtain ⟨h1, e1⟩ := List.getElem?_eq_some_iff.mp a
  obtain ⟨h2, e2⟩ := List.getElem?_eq_some_iff.mp b
  exact (List.getElem_inj hN).mp (e1.trans e2.symm)

/-- a name is stored; what changed -/
theorem store_ok2 {M : Model} {A : Around} {E : Value → Shared → Prop} {i : Nat} {x : Str} {v : V} {u : Value} {Q : Unit → Shared → Prop} (I : Inv X pins σ H s) (hN : X.N.Nodup) (hi : X.N[i]? = some x) (hx : Loc X.env.scope x) (r : RelV v u)
    (h : ∀ s', Inv X pins (σ.set i (some v)) H s' → (∃ a, Heap.SameBut a s.heap s'.heap ∧ (a = X.env.locals ∨ X.env.cells.lookup x = some a)) → Q () s') (hf : X.fn x = true ∨ X.env.scope.names.lookup x = some .local := by first | exact .inl rfl | exact .inr rfl | assumption) : wpAny M A (storeName X.env x u) Q E s := by
  obtain ⟨m, hn, hl⟩ := id I.loc
  have hcls : (X.env.scope.kind == .class || (X.env.scope.kind == .module && X.env.locals != X.env.globals)) = false := by rw [I.ok.kind]; rfl
  have hiσ : i < σ.length := by rw [I.len]; exact (List.getElem?_eq_some_iff.mp hi).1
  have cne := I.cne
  have tracked : ∀ {a : Addr} {h' : Heap}, (∃ o, s.heap.get? a = some o ∧ H a = none) → Heap.SameBut a s.heap h' → HOk X.prog X.w H h' := fun {a h'} ha hs b ob e => by
    obtain ⟨_, _, hfree⟩ := ha
    refine (I.hok b ob e).stay (fun c w' hc q => (hs.2 c ?_).trans q) (fun _ q => q) fun _ _ q => q
    rintro rfl
    rcases hc with rfl | hc
    · rw [hfree] at e; cases e
    · rw [hfree] at hc; cases hc
  rcases hx with hk | hk
  · refine wpAny_storeName_local hk hn (fun h' hn' hs => ?_) hcls
    obtain ⟨oL, _, _, hoL, _⟩ := id hn
    refine h _ ⟨I.ok, I.os, I.bare, ⟨fun b o e n hb hx => ?_, fun b o e n hb hx => ?_, I.base.free, fun b o e hx => ?_, I.base.tups, I.base.frzs, I.base.tbls⟩, ⟨_, hn', fun j y v' e1 e2 e3 => ?_⟩, fun y c e => ?_, I.free, I.freeC, fun p hp => ?_, tracked ⟨oL, hoL, I.free⟩ hs, by simpa using I.len⟩ ⟨_, hs, .inl rfl⟩
    · exact (hs.2 b (Nat.ne_of_lt (Nat.lt_of_lt_of_le (Heap.lt_size e) I.ok.above))).trans (I.base.keep b o e n hb hx)
    · obtain ⟨sl, e1⟩ := I.base.slot b o e n hb hx
      exact ⟨sl, (hs.2 b (Nat.ne_of_lt (Nat.lt_of_lt_of_le (Heap.lt_size e) I.ok.above))).trans e1⟩
    · obtain ⟨o', e1⟩ := I.base.there b o e hx
      exact ⟨o', (hs.2 b (Nat.ne_of_lt (Nat.lt_of_lt_of_le (Heap.lt_size e) I.ok.above))).trans e1⟩
    · by_cases hj : j = i
      · subst hj
        rw [hi] at e1; cases e1
        rw [List.getElem?_set_self hiσ] at e2
        cases e2
        exact ⟨u, r, .inl ⟨hk, by simp⟩⟩
      · rw [List.getElem?_set_ne (Ne.symm hj)] at e2
        obtain ⟨u', r', q⟩ := hl j y v' e1 e2 e3
        refine ⟨u', r', ?_⟩
        rcases q with ⟨k, e⟩ | ⟨k, c, e, z⟩
        · refine .inl ⟨k, ?_⟩
          have : y ≠ x := fun e => hj (nodup_ix hN e1 (e ▸ hi))
          simp [this, e]
        · exact .inr ⟨k, c, e, z.sameBut hs (cne y c e)⟩
    · obtain ⟨w', z⟩ := I.cell y c e
      exact ⟨w', z.sameBut hs (cne y c e)⟩
    · obtain ⟨e, n, ne, nf, d⟩ := I.pin p hp
      exact ⟨(hs.2 p.1 ne).trans e, n, ne, nf, d⟩
  · have hfn : X.fn x = true := by
      rcases hf with z | z
      · exact z
      · rw [z] at hk; cases hk
    obtain ⟨c, hc⟩ := I.ok.has x (.inl hk)
    obtain ⟨w', z⟩ := I.cell x c hc
    refine wpAny_storeName_cell I.ok.kind hk hc z (fun h' hc' hs => ?_)
    obtain ⟨oc, hoc, hocd⟩ := id z
    refine h { s with heap := h' } ⟨I.ok, I.os, I.bare, ⟨fun b o e n hb hx => ?_, fun b o e n hb hx => ?_, I.base.free, fun b o e hx => ?_, I.base.tups, I.base.frzs, I.base.tbls⟩, ⟨m, hn.sameBut hs (Ne.symm (cne x c hc)), fun j y v' e1 e2 e3 => ?_⟩, fun y c' e => ?_, I.free, I.freeC, fun p hp => ?_, tracked ⟨oc, hoc, I.freeC x c hc⟩ hs, by simpa using I.len⟩ ⟨c, hs, .inr hc⟩
    · exact (hs.2 b (Nat.ne_of_lt (Nat.lt_of_lt_of_le (Heap.lt_size e) (I.ok.cab x c hfn hc)))).trans (I.base.keep b o e n hb hx)
    · obtain ⟨sl, e1⟩ := I.base.slot b o e n hb hx
      exact ⟨sl, (hs.2 b (Nat.ne_of_lt (Nat.lt_of_lt_of_le (Heap.lt_size e) (I.ok.cab x c hfn hc)))).trans e1⟩
    · obtain ⟨o', e1⟩ := I.base.there b o e hx
      exact ⟨o', (hs.2 b (Nat.ne_of_lt (Nat.lt_of_lt_of_le (Heap.lt_size e) (I.ok.cab x c hfn hc)))).trans e1⟩
    · by_cases hj : j = i
      · subst hj
        rw [hi] at e1; cases e1
        rw [List.getElem?_set_self hiσ] at e2
        cases e2
        exact ⟨u, r, .inr ⟨.inl hk, c, hc, hc'⟩⟩
      · rw [List.getElem?_set_ne (Ne.symm hj)] at e2
        obtain ⟨u', r', q⟩ := hl j y v' e1 e2 e3
        refine ⟨u', r', ?_⟩
        rcases q with q | ⟨k, c', e, z'⟩
        · exact .inl q
        · refine .inr ⟨k, c', e, z'.sameBut hs ?_⟩
          rintro rfl
          exact hj (nodup_ix hN e1 (I.ok.inj _ _ _ e hc ▸ hi))
    · by_cases hcc : c' = c
      · subst hcc; exact ⟨_, hc'⟩
      · obtain ⟨w2, z2⟩ := I.cell y c' e
        exact ⟨w2, z2.sameBut hs hcc⟩
    · obtain ⟨e, n, ne, nf, d⟩ := I.pin p hp
      refine ⟨(hs.2 p.1 ?_).trans e, n, ne, nf, d⟩
      intro q
      rw [q, hoc] at e
      have q' : oc = p.2 := Option.some.inj e
      exact d w' (by rw [← q']; exact hocd)
theorem store_ok {M : Model} {A : Around} {E : Value → Shared → Prop} {i : Nat} {x : Str} {v : V} {u : Value} {Q : Unit → Shared → Prop} (I : Inv X pins σ H s) (hN : X.N.Nodup) (hi : X.N[i]? = some x) (hx : Loc X.env.scope x) (r : RelV v u)
    (h : ∀ s', Inv X pins (σ.set i (some v)) H s' → Q () s') (hf : X.fn x = true ∨ X.env.scope.names.lookup x = some .local := by first | exact .inl rfl | exact .inr rfl | assumption) : wpAny M A (storeName X.env x u) Q E s :=
  store_ok2 I hN hi hx r (fun s' I' _ => h s' I') hf
/-- behind a call or a block, the state as it is -/
theorem Inv.call' {s' : Shared} {ch : List Addr} (I : Inv X pins σ H s) (ho : s'.os = s.os) (u : Un (frs X.stack) ch H H' s.heap s'.heap) (hok : HOk X.prog X.w H' s'.heap) (hg : AllBare s'.gens)
    (hch : ∀ b ∈ ch, (b ∈ X.ex ∨ X.s₀.heap.objs.size ≤ b) ∧ b ≠ X.env.locals ∧ (∀ x c, X.env.cells.lookup x = some c → c ≠ b) ∧ ∀ p ∈ X.pn ++ pins, p.1 ≠ b) : Inv X pins σ H' s' := by
  obtain ⟨h', g', d', t', o'⟩ := s'
  have e : o' = s.os := ho
  subst e
  exact I.call (g' := g') (t' := t') (d' := d') u hok hg hch
end

/-! ### the judgements -/
/-- an exception: its class, its own dict's address (where it has one), the abstract heap behind it -/
noncomputable abbrev XK := Value → Option Addr → Hp → Prop
noncomputable abbrev St := List (Option V)
noncomputable abbrev VK := V → Hp → Prop
/-- an expression's reading; a test's; an argument list's -/
noncomputable abbrev TE := St → Hp → VK → Prop
noncomputable abbrev TT := St → Hp → (Bool → Hp → Prop) → Prop
noncomputable abbrev TA := St → Hp → (List V → Hp → Prop) → Prop
/-- what is wanted behind a statement -/
structure Ends where
  nx : St → Hp → Prop
  rt : VK
  bk : St → Hp → Prop := fun _ _ => False
  ct : St → Hp → Prop := fun _ _ => False
noncomputable abbrev TS := Ends → St → Hp → Prop

noncomputable def EP (X : Cx) (pins : List (Addr × Obj)) (σ : St) (Q : VK) (u : Value) (s' : Shared) : Prop := ∃ v H', Inv X pins σ H' s' ∧ RelV v u ∧ Q v H'
noncomputable def TP (X : Cx) (pins : List (Addr × Obj)) (σ : St) (Q : Bool → Hp → Prop) (b : Bool) (s' : Shared) : Prop := ∃ H', Inv X pins σ H' s' ∧ Q b H'
noncomputable def AP (X : Cx) (pins : List (Addr × Obj)) (σ : St) (Q : List V → Hp → Prop) (us : List Value) (s' : Shared) : Prop := ∃ vs H', Inv X pins σ H' s' ∧ Vals vs us ∧ Q vs H'
noncomputable def SP (X : Cx) (pins : List (Addr × Obj)) (D : Ends) (f : Flow) (s' : Shared) : Prop :=
  match f with
  | .next => ∃ σ' H', Inv X pins σ' H' s' ∧ D.nx σ' H'
  | .brk => ∃ σ' H', Inv X pins σ' H' s' ∧ D.bk σ' H'
  | .cont => ∃ σ' H', Inv X pins σ' H' s' ∧ D.ct σ' H'
  | .ret u => ∃ v σ' H', Inv X pins σ' H' s' ∧ RelV v u ∧ D.rt v H'

noncomputable def PE (X : Cx) (e : Expr) (t : TE) : Prop :=
  ∀ (pins : List (Addr × Obj)) (s : Shared) (σ : St) (H : Hp) (Q : VK), Inv X pins σ H s → t σ H Q → wpAny (model X.prog X.w) X.A (eval e X.env) (EP X pins σ Q) X.xe s
noncomputable def PT (X : Cx) (e : Expr) (t : TT) : Prop :=
  ∀ (pins : List (Addr × Obj)) (s : Shared) (σ : St) (H : Hp) (Q : Bool → Hp → Prop), Inv X pins σ H s → t σ H Q → wpAny (model X.prog X.w) X.A (isTrue e X.env (eval e X.env)) (TP X pins σ Q) X.xe s
/-- a test whatever its 'whole' is (and, or) -/
noncomputable def PW (X : Cx) (e : Expr) (t : TT) : Prop :=
  ∀ (whole : Sem Value) (pins : List (Addr × Obj)) (s : Shared) (σ : St) (H : Hp) (Q : Bool → Hp → Prop), Inv X pins σ H s → t σ H Q → wpAny (model X.prog X.w) X.A (isTrue e X.env whole) (TP X pins σ Q) X.xe s
theorem PW.pt {X : Cx} {e : Expr} {t : TT} (h : PW X e t) : PT X e t := h _
/-- an argument list (no star), from the left -/
noncomputable def PA (X : Cx) (es : List Expr) (t : TA) : Prop :=
  ∀ (pos : Pos) (pins : List (Addr × Obj)) (s : Shared) (σ : St) (H : Hp) (Q : List V → Hp → Prop), Inv X pins σ H s → t σ H Q → wpAny (model X.prog X.w) X.A (spliced (backTo pos (starEach es X.env))) (AP X pins σ Q) X.xe s
noncomputable def PS (X : Cx) (st : Stmt) (t : TS) : Prop :=
  ∀ (pins : List (Addr × Obj)) (s : Shared) (σ : St) (H : Hp) (D : Ends), Inv X pins σ H s → t D σ H → wpAny (model X.prog X.w) X.A (exec st X.env) (SP X pins D) X.xe s
noncomputable def PSs (X : Cx) (st : List Stmt) (t : TS) : Prop :=
  ∀ (pins : List (Addr × Obj)) (s : Shared) (σ : St) (H : Hp) (D : Ends), Inv X pins σ H s → t D σ H → wpAny (model X.prog X.w) X.A (execs st X.env) (SP X pins D) X.xe s
/-- weaken the end -/
theorem thn {α : Type} {t : Sem α} {Q Q' : α → Shared → Prop} {M : Model} {A : Around} {E : Value → Shared → Prop} {s : Shared} (h : wpAny M A t Q E s) (hQ : ∀ a s, Q a s → Q' a s) : wpAny M A t Q' E s := wpAny_mono h hQ fun _ _ x => x
end L2

namespace L2
open PySem PySem.Spec PyProof.Rows
section
variable {X : Cx}


/-! ### names and constants -/
noncomputable def tVar (i : Nat) : TE := fun σ H Q => ∃ v, σ[i]? = some (some v) ∧ Q v H
noncomputable def tC (v : V) : TE := fun _ H Q => Q v H
theorem pe_var {i : Nat} {x : Str} {pos : Pos} (hN : X.N[i]? = some x) (hv : Vis X.env.scope x) (hd : (x == ("__debug__" : Str)) = false := by decide) (hcd : (x == ("__classdict__" : Str)) = false := by decide) : PE X (.Name x pos) (tVar i) := by
  intro pins s σ H Q I h
  obtain ⟨v, e, h⟩ := h
  obtain ⟨m, hn, hl⟩ := I.loc
  obtain ⟨u, r, l⟩ := hl i x v hN e hv
  have fin : EP X pins σ Q u s := ⟨v, H, I, r, h⟩
  rcases l with ⟨hk, hm⟩ | ⟨hk, c, hc, hcell⟩
  · exact wpAny_Name (wpAny_loadName_local I.ok.kind hk hn hm fin) hd
  · rcases hk with hk | hk
    · exact wpAny_Name (wpAny_loadName_cell I.ok.kind hk hc hcell fin) hd
    · exact wpAny_Name (wpAny_loadName_free I.ok.kind hk hc hcell fin hcd) hd
theorem pe_int {i j pos} : PE X (.Constant (.int i) j pos) (tC (.int i)) := fun _ _ _ H _ I h => wpAny_Constant_int ⟨.int i, H, I.tok _, ⟨_, rfl⟩, h⟩
theorem pe_bl {b j pos} : PE X (.Constant (.bool b) j pos) (tC (.bl b)) := fun _ _ _ H _ I h => Constant_bool ⟨.bl b, H, I, rfl, h⟩
theorem pe_str {x j pos} : PE X (.Constant (.str x) j pos) (tC (.str x)) := fun _ _ _ H _ I h => Calls.Constant_str ⟨.str x, H, I.tok _, ⟨_, rfl⟩, h⟩

/-- a global name of the def -/
noncomputable def Gl (X : Cx) (x : Str) : Prop := X.env.kindOf x = some .globalImplicit
theorem ld_glob {E : Value → Shared → Prop} {pins : List (Addr × Obj)} {s : Shared} {σ : St} {H : Hp} {x : Str} {u : Value} {pos : Pos} {Q : Value → Shared → Prop} (I : Inv X pins σ H s) (hg : Gl X x) (hm : X.mg x = some u) (h : Q u s)
    (hd : (x == ("__debug__" : Str)) = false := by decide) : wpAny (model X.prog X.w) X.A (eval (.Name x pos) X.env) Q E s :=
  Calls.Name_function_global I.ok.kind hg (Calls.loadGlobal_global (by rw [I.ok.glob]; exact I.mod.glob.keeps I.bk) hm h) hd
theorem ld_blt {E : Value → Shared → Prop} {pins : List (Addr × Obj)} {s : Shared} {σ : St} {H : Hp} {x : Str} {u : Value} {pos : Pos} {Q : Value → Shared → Prop} (I : Inv X pins σ H s) (hg : Gl X x) (hm : X.mg x = none) (hv : bootBuiltins x = some u) (h : Q u s)
    (hn : x ≠ "__name__" := by decide) (hd : (x == ("__debug__" : Str)) = false := by decide) : wpAny (model X.prog X.w) X.A (eval (.Name x pos) X.env) Q E s := by
  obtain ⟨mb, h1, h2⟩ := I.mod.blt
  exact Calls.Name_function_global I.ok.kind hg (Calls.loadGlobal_builtin (by rw [I.ok.glob]; exact I.mod.glob.keeps I.bk) hm (by rw [I.ok.blt]; exact h1.keeps I.bk) ((h2 x hn).trans hv) h) hd
/-- a module's constant, a class, a function, as a value -/
theorem pe_glob {x : Str} {v : V} {u : Value} {pos : Pos} (hg : Gl X x) (hm : X.mg x = some u) (r : RelV v u) (hd : (x == ("__debug__" : Str)) = false := by decide) : PE X (.Name x pos) (tC v) :=
  fun _ _ _ H _ I h => ld_glob I hg hm ⟨v, H, I, r, h⟩ hd
theorem pe_bltn {x : Str} {v : V} {u : Value} {pos : Pos} (hg : Gl X x) (hm : X.mg x = none) (hv : bootBuiltins x = some u) (r : RelV v u) (hn : x ≠ "__name__" := by decide) (hd : (x == ("__debug__" : Str)) = false := by decide) : PE X (.Name x pos) (tC v) :=
  fun _ _ _ H _ I h => ld_blt I hg hm hv ⟨v, H, I, r, h⟩ hn hd

/-! ### arithmetic -/
variable {a b : Expr} {ta tb : TE} {pos : Pos}

/-! ### comparisons -/
noncomputable def PC (X : Cx) (op : CmpOp) (a b : Expr) (t : TE) : Prop :=
  ∀ (pins : List (Addr × Obj)) (s : Shared) (σ : St) (H : Hp) (Q : VK), Inv X pins σ H s → t σ H Q →
    wpAny (model X.prog X.w) X.A (eval a X.env) (fun v s₁ => wpAny (model X.prog X.w) X.A (eval b X.env) (fun u s₂ => wpAny (model X.prog X.w) X.A (compareOp op v u) (EP X pins σ Q) X.xe s₂) X.xe s₁) X.xe s
/-- a comparison as a value, as a test -/
noncomputable def tB (t : TE) : TT := fun σ H Q => t σ H fun x H1 => ∃ c, x = .bl c ∧ Q c H1
theorem pt_cmp {op : CmpOp} {t : TE} (h : PC X op a b t) (h1 : behindInMarks op b = false := by first | exact nobehind _ (by decide) (by decide) | rfl) : PT X (.Compare a [op] [b] pos) (tB t) := by
  intro pins s σ H Q I hw
  refine wpAny_isTrue_Compare1 (thn (h pins s σ H _ I hw) fun v s1 h1 => thn h1 fun u s2 h2 => thn h2 fun c s3 ⟨x, H1, I1, r1, q1⟩ => ?_) h1
  obtain ⟨d, rfl, q⟩ := q1
  cases r1
  exact wpAny_truthy_bool ⟨H1, I1, q⟩
/-- an expression whose value is a bool, as a test -/
theorem pt_val {e : Expr} {t : TE} (h : PE X e t) (he : ∀ whole, isTrue e X.env whole = (do let v ← whole; standAt e.pos; holding [v] (truthy v)) := by intro _; rfl) : PT X e (tB t) := by
  intro pins s σ H Q I hw
  refine isTrue_plain (thn (h pins s σ H _ I hw) fun v s1 ⟨x, H1, I1, r1, q1⟩ => ?_) (he _)
  obtain ⟨d, rfl, q⟩ := q1
  cases r1
  exact wpAny_truthy_bool ⟨H1, I1, q⟩

/-! ### and, or, not -/
variable {tA tB' : TT} {rest : List Expr}
noncomputable def tOr (t u : TT) : TT := fun σ H Q => t σ H fun c H1 => if c = true then Q true H1 else u σ H1 Q
noncomputable def tNot (t : TT) : TT := fun σ H Q => t σ H fun c H1 => Q (!c) H1
theorem pw_or1 (ha : PT X a tA) : PW X (.BoolOp .Or [a] pos) tA := by
  intro wh pins s σ H Q I h
  refine isTrue_or (thn (ha pins s σ H Q I h) fun c s1 e => ?_)
  cases c with
  | false => exact isTrue_or_nil e
  | true => exact e
theorem pw_or (ha : PT X a tA) (hb : PW X (.BoolOp .Or (b :: rest) pos) tB') : PW X (.BoolOp .Or (a :: b :: rest) pos) (tOr tA tB') := by
  intro wh pins s σ H Q I h
  refine isTrue_or (thn (ha pins s σ H _ I h) fun c s1 ⟨H1, I1, q1⟩ => ?_)
  cases c with
  | true => exact ⟨H1, I1, q1⟩
  | false => exact hb wh pins s1 σ H1 Q I1 q1
theorem pt_not (ha : PT X a tA) : PT X (.UnaryOp .Not a pos) (tNot tA) := by
  intro pins s σ H Q I h
  exact isTrue_not (ha pins s σ H (fun c H1 => Q (!c) H1) I h)
/-- .. as values (bools) -/
noncomputable def tAndV (ta tb : TE) : TE := fun σ H Q => ta σ H fun x H1 => ∃ c, x = .bl c ∧ if c = true then tb σ H1 Q else Q (.bl false) H1
noncomputable def tNotV (ta : TE) : TE := fun σ H Q => ta σ H fun x H1 => ∃ c, x = .bl c ∧ Q (.bl (!c)) H1
theorem pe_one {op} {t : TE} (h : PE X a t) : PE X (.BoolOp op [a] pos) t := fun pins s σ H Q I hw => BoolOp_one (h pins s σ H Q I hw)
theorem pe_and (ha : PE X a ta) (hb : PE X (.BoolOp .And (b :: rest) pos) tb) : PE X (.BoolOp .And (a :: b :: rest) pos) (tAndV ta tb) := by
  intro pins s σ H Q I h
  refine BoolOp_and (thn (ha pins s σ H _ I h) fun v s1 ⟨x, H1, I1, r1, q1⟩ => ?_)
  obtain ⟨c, rfl, q1⟩ := q1
  cases r1
  refine wpAny_truthy_bool ?_
  cases c with
  | true => exact hb pins s1 σ H1 Q I1 q1
  | false => exact ⟨.bl false, H1, I1, rfl, q1⟩
theorem pe_not (ha : PE X a ta) : PE X (.UnaryOp .Not a pos) (tNotV ta) := by
  intro pins s σ H Q I h
  refine UnaryOp_ (thn (ha pins s σ H _ I h) fun v s1 ⟨x, H1, I1, r1, q1⟩ => ?_)
  obtain ⟨c, rfl, q1⟩ := q1
  cases r1
  exact not_of (wpAny_truthy_bool ⟨.bl (!c), H1, I1, rfl, q1⟩)
end
end L2

namespace L2
open PySem PySem.Spec PyProof.Rows

/-! ### a list, a tuple that is read: tracked, frozen, or an object of the module -/
noncomputable def SqL (K : PySem.W.Frag) (H : Hp) (a : Addr) (xs : List V) : Prop :=
  Rd H a (.lst xs) ∨
    ∃ (o : Obj) (its : Array Value) (n : Nat), K.lookup a = some o ∧ o.cls = .type "list" ∧ o.dict = none ∧ o.data = .seq its n ∧ its.size ≤ sizeLine ∧ Vals xs its.toList
noncomputable def SqT (K : PySem.W.Frag) (H : Hp) (a : Addr) (xs : List V) : Prop :=
  Rd H a (.tup xs) ∨
    ∃ (o : Obj) (its : Array Value) (n : Nat), K.lookup a = some o ∧ o.cls = .type "tuple" ∧ o.data = .seq its n ∧ its.size ≤ sizeLine ∧ Vals xs its.toList
noncomputable def absV : Value → Option V
  | .none => some .non
  | .bool b => some (.bl b)
  | .int i _ => some (.int i)
  | .str x _ => some (.str x)
  | .bytes b _ => some (.byt b)
  | .float b _ => some (.flt b)
  | .ref a => some (.ref a)
  | .type n => some (.ty n)
  | _ => none
theorem RelV.abs {x : V} {u : Value} (r : RelV x u) : absV u = some x := by
  cases x with
  | non => cases r; rfl
  | bl _ => cases r; rfl
  | int _ => obtain ⟨t, rfl⟩ := r; rfl
  | str _ => obtain ⟨t, rfl⟩ := r; rfl
  | byt _ => obtain ⟨t, rfl⟩ := r; rfl
  | flt _ => obtain ⟨t, rfl⟩ := r; rfl
  | ref _ => cases r; rfl
  | ty _ => cases r; rfl
theorem RelV.inj {x y : V} {u : Value} (r : RelV x u) (q : RelV y u) : x = y := Option.some.inj (r.abs.symm.trans q.abs)
theorem Vals.inj : ∀ {xs ys : List V} {us : List Value}, Vals xs us → Vals ys us → xs = ys
  | _, _, _, .nil, .nil => rfl
  | _, _, _, .cons r t, .cons r' t' => by rw [r.inj r', Vals.inj t t']
section
variable {X : Cx} {pins : List (Addr × Obj)} {σ : St} {H : Hp} {s : Shared} {a : Addr} {xs ys : List V}
theorem SqL.of {K : PySem.W.Frag} (h : H a = some (.lst xs)) : SqL K H a xs := .inl (.inl h)
theorem SqT.of {K : PySem.W.Frag} (h : H a = some (.tup xs)) : SqT K H a xs := .inl (.inl h)
theorem Inv.list (I : Inv X pins σ H s) (h : SqL X.K H a xs) : ∃ its : List Value, Vals xs its ∧ PlainL s.heap a its.toArray ∧ xs.length ≤ sizeLine := by
  rcases h with h | ⟨o, its, n, hk, hc, hd, hs, hz, r⟩
  · obtain ⟨z, its, n, r, e⟩ := h.ok I.hok
    exact ⟨its, r, ⟨_, n, e, rfl, rfl, rfl⟩, z⟩
  · refine ⟨its.toList, r, ⟨o, n, I.kIn a o hk, hc, hd, by simpa using hs⟩, ?_⟩
    have e := r.length
    simp only [Array.length_toList] at e
    omega
theorem Inv.tuple (I : Inv X pins σ H s) (h : SqT X.K H a xs) : ∃ its : List Value, Vals xs its ∧ IsTup s.heap a its.toArray ∧ xs.length ≤ sizeLine := by
  rcases h with h | ⟨o, its, n, hk, hc, hs, hz, r⟩
  · obtain ⟨z, its, r, p⟩ := h.ok I.hok
    exact ⟨its, r, p, z⟩
  · refine ⟨its.toList, r, ⟨o, I.kIn a o hk, hc, n, by simpa using hs⟩, ?_⟩
    have e := r.length
    simp only [Array.length_toList] at e
    omega
theorem Inv.list_inj (I : Inv X pins σ H s) (h : SqL X.K H a xs) (h' : SqL X.K H a ys) : xs = ys := by
  obtain ⟨its, r, ⟨o, n, e, _, _, d⟩, _⟩ := I.list h
  obtain ⟨its', r', ⟨o', n', e', _, _, d'⟩, _⟩ := I.list h'
  rw [e] at e'; cases e'
  rw [d] at d'
  injection d' with d1 _
  have : its = its' := by simpa using congrArg Array.toList d1
  subst this
  exact r.inj r'
theorem Inv.tuple_inj (I : Inv X pins σ H s) (h : SqT X.K H a xs) (h' : SqT X.K H a ys) : xs = ys := by
  obtain ⟨its, r, ⟨o, e, _, n, d⟩, _⟩ := I.tuple h
  obtain ⟨its', r', ⟨o', e', _, n', d'⟩, _⟩ := I.tuple h'
  rw [e] at e'; cases e'
  rw [d] at d'
  injection d' with d1 _
  have : its = its' := by simpa using congrArg Array.toList d1
  subst this
  exact r.inj r'
end

/-! ### another wish about exceptions -/
noncomputable abbrev Cx.wish (X : Cx) (E : Value → Shared → Prop) : Cx := { X with xe := E }
/-- no exception leaves -/
noncomputable abbrev Cx.nox (X : Cx) : Cx := X.wish fun _ _ => False
theorem Cx.Ok.wish {X : Cx} (ok : X.Ok) (E : Value → Shared → Prop) : (X.wish E).Ok :=
  ⟨ok.mod, ok.kind, ok.glob, ok.blt, ok.above, ok.inj, ok.has, ok.cab, ok.hd, ok.frames, ok.stk, ok.exf, ok.bs, ok.bsz, ok.noex, ok.exfs, ok.funs, ok.frf⟩
theorem Cx.Ok.unwish {X : Cx} {E : Value → Shared → Prop} (ok : (X.wish E).Ok) : X.Ok :=
  ⟨ok.mod, ok.kind, ok.glob, ok.blt, ok.above, ok.inj, ok.has, ok.cab, ok.hd, ok.frames, ok.stk, ok.exf, ok.bs, ok.bsz, ok.noex, ok.exfs, ok.funs, ok.frf⟩
section
variable {X : Cx} {pins : List (Addr × Obj)} {σ : St} {H : Hp} {s : Shared} {E : Value → Shared → Prop}
theorem Inv.wish (I : Inv X pins σ H s) (E : Value → Shared → Prop) : Inv (X.wish E) pins σ H s := ⟨I.ok.wish E, I.os, I.bare, I.base, I.loc, I.cell, I.free, I.freeC, I.pin, I.hok, I.len⟩
theorem Inv.unwish (I : Inv (X.wish E) pins σ H s) : Inv X pins σ H s := ⟨I.ok.unwish, I.os, I.bare, I.base, I.loc, I.cell, I.free, I.freeC, I.pin, I.hok, I.len⟩
theorem SP.unwish {D : Ends} {f : Flow} {s' : Shared} (h : SP (X.wish E) pins D f s') : SP X pins D f s' := by
  cases f with
  | next => obtain ⟨σ', H', I, q⟩ := h; exact ⟨σ', H', I.unwish, q⟩
  | brk => obtain ⟨σ', H', I, q⟩ := h; exact ⟨σ', H', I.unwish, q⟩
  | cont => obtain ⟨σ', H', I, q⟩ := h; exact ⟨σ', H', I.unwish, q⟩
  | ret u => obtain ⟨v, σ', H', I, r, q⟩ := h; exact ⟨v, σ', H', I.unwish, r, q⟩
theorem PSs.nox {st : List Stmt} {t : TS} (h : PSs X.nox st t) : PSs X st t := fun pins s σ H D I hw =>
  wpAny_mono (h pins s σ H D (I.wish _) hw) (fun _ _ q => q.unwish) fun _ _ z => False.elim z
end

/-! ### blocks and small statements -/
section
variable {X : Cx} {st : Stmt} {rest : List Stmt} {t u : TS} {e : Expr} {te : TE} {pos : Pos}
noncomputable def tNext : TS := fun D σ H => D.nx σ H
noncomputable def tSeq (t u : TS) : TS := fun D σ H => t { D with nx := u D } σ H
theorem pss_nil : PSs X [] tNext := fun _ _ σ H _ I h => wpAny_execs_nil ⟨σ, H, I, h⟩
theorem pss_cons (h1 : PS X st t) (h2 : PSs X rest u) : PSs X (st :: rest) (tSeq t u) := by
  intro pins s σ H D I h
  refine wpAny_execs_cons (thn (h1 pins s σ H { D with nx := u D } I h) fun f s1 q => ?_)
  cases f with
  | next =>
    obtain ⟨σ', H', I', q⟩ := q
    exact h2 pins s1 σ' H' D I' q
  | ret v => exact q
  | brk => exact q
  | cont => exact q
theorem pss_one (h1 : PS X st t) : PSs X [st] t := by
  intro pins s σ H D I h
  refine wpAny_execs_cons (thn (h1 pins s σ H D I h) fun f s1 q => ?_)
  cases f with
  | next => exact wpAny_execs_nil q
  | ret v => exact q
  | brk => exact q
  | cont => exact q
/-- in a def's body nothing is shown -/
theorem Inv.quiet {pins : List (Addr × Obj)} {σ : St} {H : Hp} {s : Shared} (I : Inv X pins σ H s) : interactive X.env = false := by simp [interactive, I.ok.kind]
/-- an expression whose value is dropped -/
noncomputable def tDrop (te : TE) : TS := fun D σ H => te σ H fun _ H1 => D.nx σ H1
theorem ps_expr (he : PE X e te) (hs : swapsWith e none pos.line X.env = pure false := by rfl) : PS X (.Expr e pos) (tDrop te) := by
  intro pins s σ H D I h
  exact wpAny_Expr_any (thn (he pins s σ H _ I h) fun v s1 ⟨x, H1, I1, r1, q1⟩ => ⟨σ, H1, I1, q1⟩) I.quiet hs
noncomputable def tRet (te : TE) : TS := fun D σ H => te σ H D.rt
theorem ps_ret (he : PE X e te) : PS X (.Return (some e) pos) (tRet te) := by
  intro pins s σ H D I h
  exact wpAny_Return_some (thn (he pins s σ H _ I h) fun v s1 ⟨x, H1, I1, r1, q1⟩ => ⟨x, σ, H1, I1, r1, q1⟩)
noncomputable def tIfS (c : TT) (t u : TS) : TS := fun D σ H => c σ H fun b H1 => if b = true then t D σ H1 else u D σ H1
theorem ps_if {c : Expr} {a b : List Stmt} {tc : TT} (hc : PT X c tc) (ha : PSs X a t) (hb : PSs X b u) : PS X (.If c a b pos) (tIfS tc t u) := by
  intro pins s σ H D I h
  refine wpAny_If (thn (hc pins s σ H _ I h) fun d s1 ⟨H1, I1, q1⟩ => ?_)
  cases d with
  | true => exact ha pins s1 σ H1 D I1 q1
  | false => exact hb pins s1 σ H1 D I1 q1
end

/-! ### targets -/
noncomputable abbrev TG := V → St → Hp → (St → Hp → Prop) → Prop
noncomputable abbrev TGs := List V → St → Hp → (St → Hp → Prop) → Prop
noncomputable def PG (X : Cx) (target : Expr) (t : TG) : Prop :=
  ∀ (pins : List (Addr × Obj)) (s : Shared) (σ : St) (H : Hp) (v : V) (u : Value) (Q : St → Hp → Prop), Inv X pins σ H s → RelV v u → t v σ H Q →
    wpAny (model X.prog X.w) X.A (assign target X.env u) (fun _ s' => ∃ σ' H', Inv X pins σ' H' s' ∧ Q σ' H') X.xe s
/-- several targets, one after another -/
noncomputable def PGs (X : Cx) (ts : List Expr) (t : TGs) : Prop :=
  ∀ (pins : List (Addr × Obj)) (s : Shared) (σ : St) (H : Hp) (vs : List V) (us : List Value) (Q : St → Hp → Prop), Inv X pins σ H s → Vals vs us → t vs σ H Q →
    wpAny (model X.prog X.w) X.A (assignInOrder ((assignEach ts X.env).map (·.2)) us) (fun _ s' => ∃ σ' H', Inv X pins σ' H' s' ∧ Q σ' H') X.xe s
/-- o[i] = v, by values -/
noncomputable abbrev TSet := V → V → V → Hp → (Hp → Prop) → Prop
noncomputable def PSet (X : Cx) (t : TSet) : Prop :=
  ∀ (pins : List (Addr × Obj)) (s : Shared) (σ : St) (H : Hp) (o i v : V) (ov iv u : Value) (Q : Hp → Prop), Inv X pins σ H s → RelV o ov → RelV i iv → RelV v u → t o i v H Q →
    wpAny (model X.prog X.w) X.A (setItem ov iv u) (fun _ s' => ∃ H', Inv X pins σ H' s' ∧ Q H') X.xe s
section
variable {X : Cx} {pos : Pos}
noncomputable def gName (i : Nat) : TG := fun v σ H Q => Q (σ.set i (some v)) H
theorem pg_name {i : Nat} {x : Str} (hN : X.N.Nodup) (hi : X.N[i]? = some x) (hx : Loc X.env.scope x) (hf : X.fn x = true ∨ X.env.scope.names.lookup x = some .local := by first | exact .inl rfl | exact .inr rfl | assumption) : PG X (.Name x pos) (gName i) := by
  intro pins s σ H v u Q I r h
  exact wpAny_assign_Name (store_ok I hN hi hx r (fun s' I' => ⟨_, H, I', h⟩) hf)
noncomputable def gNil : TGs := fun vs σ H Q => vs = [] ∧ Q σ H
noncomputable def gCons (t : TG) (u : TGs) : TGs := fun vs σ H Q => ∃ v r, vs = v :: r ∧ t v σ H fun σ' H' => u r σ' H' Q
theorem pgs_nil : PGs X [] gNil := by
  intro pins s σ H vs us Q I r h
  obtain ⟨e, h⟩ := h
  subst e
  cases r
  exact assignInOrder_nil ⟨σ, H, I, h⟩
theorem pgs_cons {e : Expr} {es : List Expr} {t : TG} {u : TGs} (h1 : PG X e t) (h2 : PGs X es u)
    (hs : (assignEach (e :: es) X.env).map (·.2) = assign e X.env :: (assignEach es X.env).map (·.2) := by rfl) : PGs X (e :: es) (gCons t u) := by
  intro pins s σ H vs us Q I r h
  obtain ⟨v, vr, e1, h⟩ := h
  subst e1
  cases r with
  | cons r rr =>
    rw [hs]
    refine assignInOrder_cons (thn (h1 pins s σ H _ _ _ I r h) fun _ s1 ⟨σ1, H1, I1, q1⟩ => ?_)
    exact h2 pins s1 σ1 H1 _ _ Q I1 rr q1
/-- (a, b, ..) = a tuple of that length -/
noncomputable def gTup (K : PySem.W.Frag) (n : Nat) (t : TGs) : TG := fun v σ H Q => ∃ a xs, v = .ref a ∧ SqT K H a xs ∧ xs.length = n ∧ t xs σ H Q
theorem pg_tup {es : List Expr} {k : Nat} {t : TGs} {n : Nat} (hc : X.calm = true) (h : PGs X es t)
    (hn : (assignEach es X.env).length = n := by rfl) (hst : (assignEach es X.env).findIdx? (·.1) = none := by rfl) : PG X (.Tuple es k pos) (gTup X.K n t) := by
  intro pins s σ H v u Q I r hw
  obtain ⟨a, xs, e1, hq, hl, hw⟩ := hw
  subst e1
  cases r
  obtain ⟨its, rv, ht, hz⟩ := I.tuple hq
  refine assign_Tuple_tuple (I.ok.hd hc) ht (by simp [hn, ← hl, rv.length]) hst fun h' hx => ?_
  have I1 : Inv X pins σ H { s with heap := h' } := I.kept (t' := s.toks) fun b o e => hx b o (Nat.ne_of_lt (Heap.lt_size e)) e
  exact h pins _ σ H xs _ Q I1 (by simpa using rv) hw
/-- o[i] = .. -/
noncomputable def gSub (to ti : TE) (t : TSet) : TG := fun v σ H Q => to σ H fun o H1 => ti σ H1 fun i H2 => t o i v H2 fun H3 => Q σ H3
theorem pg_sub {o i : Expr} {to ti : TE} {t : TSet} (ho : PE X o to) (hi : PE X i ti) (hs : PSet X t)
    (ha : ∀ v, assign (.Subscript o i pos) X.env v = (do
      let ov ← holding [v] (eval o X.env)
      let iv ← holding [v, ov] (eval i X.env)
      standAt pos
      holding [v, ov, iv] (setItem ov iv v)
      release [v, ov, iv] []) := by intro _; rfl) : PG X (.Subscript o i pos) (gSub to ti t) := by
  intro pins s σ H v u Q I r h
  rw [ha]
  refine wpAny_bind (wpAny_holding (thn (ho pins s σ H _ I h) fun ov s1 ⟨x, H1, I1, r1, q1⟩ => ?_))
  refine wpAny_bind (wpAny_holding (thn (hi pins s1 σ H1 _ I1 q1) fun iv s2 ⟨y, H2, I2, r2, q2⟩ => ?_))
  refine wpAny_bind (wpAny_standAt (wpAny_bind (wpAny_holding (thn (hs pins s2 σ H2 x y v ov iv u _ I2 r1 r2 r q2) fun _ s3 ⟨H3, I3, q3⟩ => ?_))))
  exact wpAny_release ⟨σ, H3, I3, q3⟩
/-- target = value -/
noncomputable def tAsg (te : TE) (g : TG) : TS := fun D σ H => te σ H fun x H1 => g x σ H1 D.nx
theorem ps_asg {tg e : Expr} {te : TE} {g : TG} (he : PE X e te) (hg : PG X tg g) (hs : swapsWithSole [tg] e pos.line X.env = pure false := by rfl) (hw : swappedStores [tg] e X.env = pure none := by rfl)
    (h1 : (assignEach [tg] X.env).map (·.2) = [assign tg X.env] := by rfl) : PS X (.Assign [tg] e pos) (tAsg te g) := by
  intro pins s σ H D I h
  refine wpAny_Assign_stores (thn (he pins s σ H _ I h) fun v s1 ⟨x, H1, I1, r1, q1⟩ => ?_) hs hw
  rw [h1]
  exact thn (hg pins s1 σ H1 x v _ I1 r1 q1) fun _ s2 q => q
/-- name = value -/
theorem ps_set {i : Nat} {x : Str} {e : Expr} {te : TE} {pos' : Pos} (hN : X.N.Nodup) (hi : X.N[i]? = some x) (hx : Loc X.env.scope x) (he : PE X e te) (hs : swapsWith e (some (.Name x pos')) pos.line X.env = pure false := by rfl) (hf : X.fn x = true ∨ X.env.scope.names.lookup x = some .local := by first | exact .inl rfl | exact .inr rfl | assumption) :
    PS X (.Assign [.Name x pos'] e pos) (tAsg te (gName i)) := by
  intro pins s σ H D I h
  refine wpAny_Assign_Name (thn (he pins s σ H _ I h) fun v s1 ⟨y, H1, I1, r1, q1⟩ => ?_) hs
  exact store_ok I1 hN hi hx r1 (fun s2 I2 => ⟨_, H1, I2, q1⟩) hf
end

/-! ### while -/
section
variable {X : Cx} {pos : Pos}
/-- the invariant W with its measure -/
noncomputable def tWhile (c : TT) (tb : TS) : TS := fun D σ H => ∃ W : Nat → St → Hp → Prop, (∃ m, W m σ H) ∧ ∀ m σ H, W m σ H →
  c σ H fun b H1 => if b = true then ∃ N : St → Hp → Prop, (∀ σ' H', N σ' H' → ∃ m', m' < m ∧ W m' σ' H') ∧ tb { D with nx := N, ct := N, bk := D.nx } σ H1 else D.nx σ H1
theorem ps_while {c : Expr} {body : List Stmt} {tc : TT} {tb : TS} (hp : PassesOwn (model X.prog X.w) X.A X.env X.xe) (hc : PT X c tc) (hb : PSs X body tb) : PS X (.While c body [] pos) (tWhile tc tb) := by
  intro pins s σ H D I h
  obtain ⟨W, ⟨m0, w0⟩, turn⟩ := h
  refine wpAny_While (codeAny_whileLoop (fun n s' => ∃ σ' H', Inv X pins σ' H' s' ∧ W n σ' H') ?_ m0 ⟨σ, H, I, w0⟩)
  rintro n s1 ⟨σ1, H1, I1, w1⟩
  refine wpAny_passesOwn hp (thn (hc pins s1 σ1 H1 _ I1 (turn n σ1 H1 w1)) fun b s2 ⟨H2, I2, q2⟩ => ?_)
  cases b with
  | true =>
    obtain ⟨N, hN, q2⟩ := q2
    rw [if_pos rfl]
    refine wpAny_passesOwn hp (thn (hb pins s2 σ1 H2 _ I2 q2) fun f s3 q3 => ?_)
    cases f with
    | next =>
      obtain ⟨σ3, H3, I3, n3⟩ := q3
      obtain ⟨m', hm, w3⟩ := hN σ3 H3 n3
      exact ⟨m', hm, σ3, H3, I3, w3⟩
    | cont =>
      obtain ⟨σ3, H3, I3, n3⟩ := q3
      obtain ⟨m', hm, w3⟩ := hN σ3 H3 n3
      exact ⟨m', hm, σ3, H3, I3, w3⟩
    | brk => exact q3
    | ret v => exact q3
  | false =>
    rw [if_neg Bool.false_ne_true]
    exact wpAny_execs_nil ⟨σ1, H2, I2, q2⟩
end

/-! ### what a loop or a comprehension walks -/
/-- at turn i: it yields x (the heap may grow), or it stops -/
structure It where
  go : Nat → Hp → Prop
  yld : Nat → Hp → V → Hp → Prop
  stop : Nat → Hp → Prop
/-- the iterator's own objects may turn: they are not the frame's, not pinned, younger than the entry (or a comprehension's own) -/
noncomputable def FpOk (X : Cx) (pins : List (Addr × Obj)) (H : Hp) (b : Addr) : Prop :=
  H b = none ∧ b ≠ X.env.locals ∧ b ∉ X.fs ∧ (b ∈ X.ex ∨ X.s₀.heap.objs.size ≤ b) ∧ (∀ x c, X.env.cells.lookup x = some c → c ≠ b) ∧ ∀ p ∈ X.pn ++ pins, p.1 ≠ b
theorem Inv.fpOk {X : Cx} {pins : List (Addr × Obj)} {σ : St} {H H' : Hp} {s : Shared} {b : Addr} (I : Inv X pins σ H s) (hb : s.heap.objs.size ≤ b) (hn : H' b = none) : FpOk X pins H' b := by
  refine ⟨hn, Nat.ne_of_gt (Nat.lt_of_lt_of_le I.lt hb), I.nofs hb, .inr (Nat.le_trans I.sz hb), fun x c e z => ?_, fun p hp z => ?_⟩
  · obtain ⟨v, q⟩ := I.cell x c e
    exact absurd (Nat.lt_of_lt_of_le q.lt (by rw [z]; exact hb)) (Nat.lt_irrefl _)
  · exact absurd (Nat.lt_of_lt_of_le (Heap.lt_size (I.pin p hp).1) (by rw [z]; exact hb)) (Nat.lt_irrefl _)
structure Turn (P : Program) (w : World) (K : PySem.W.Frag) (tg : Expr) (J : It) (fp : List Addr) (it : Addr) (tn : Nat → Heap → Prop) : Prop where
  mem : it ∈ fp
  obj : ∀ i h, tn i h → ∀ b ∈ fp, ∃ o, h.get? b = some o ∧ ∀ v, o.data ≠ .cell v
  keep : ∀ i h h', tn i h → (∀ b ∈ fp, ∀ o, h.get? b = some o → h'.get? b = some o) → tn i h'
  item : ∀ (X : Cx), X.prog = P → X.w = w → X.K = K → X.calm = true → ∀ (i : Nat) (pins : List (Addr × Obj)) (s : Shared) (σ : St) (H : Hp) (E : Value → Shared → Prop), Inv X pins σ H s → (∀ b ∈ fp, FpOk X pins H b) → tn i s.heap → J.go i H →
    wpAny (model P w) X.A (pyNext (.ref it)) (fun r s1 => ∃ u, r = some u ∧
      wpAny (model P w) X.A (letOwnedTupleGo tg (.ref it) u) (fun _ s2 => ∃ x H', Inv X pins σ H' s2 ∧ RelV x u ∧ J.yld i H x H' ∧ tn (i + 1) s2.heap ∧ ∀ b ∈ fp, H' b = none) E s1) E s
  done : ∀ (X : Cx), X.prog = P → X.w = w → X.K = K → X.calm = true → ∀ (i : Nat) (pins : List (Addr × Obj)) (s : Shared) (σ : St) (H : Hp) (E : Value → Shared → Prop), Inv X pins σ H s → (∀ b ∈ fp, FpOk X pins H b) → tn i s.heap → J.stop i H →
    wpAny (model P w) X.A (pyNext (.ref it)) (fun r s1 => r = none ∧ Inv X pins σ H s1) E s
  self : ∀ (A : Around) (i : Nat) (s : Shared) (Q : Value → Shared → Prop) (E : Value → Shared → Prop), tn i s.heap → Q (.ref it) s → wpAny (model P w) A (pyIter (.ref it)) Q E s
noncomputable abbrev TI := St → Hp → (It → Hp → Prop) → Prop
/-- an iterator has come -/
noncomputable def PIE (X : Cx) (pins : List (Addr × Obj)) (σ : St) (tg : Expr) (R : It → Hp → Prop) (itv : Value) (s2 : Shared) : Prop :=
  ∃ (it : Addr) (fp : List Addr) (tn : Nat → Heap → Prop) (J : It) (H' : Hp), itv = .ref it ∧ Inv X pins σ H' s2 ∧ Turn X.prog X.w X.K tg J fp it tn ∧ tn 0 s2.heap ∧ (∀ b ∈ fp, FpOk X pins H' b) ∧ R J H'
noncomputable def PI (X : Cx) (tg iter : Expr) (wi : TI) : Prop :=
  ∀ (pins : List (Addr × Obj)) (s : Shared) (σ : St) (H : Hp) (R : It → Hp → Prop), Inv X pins σ H s → wi σ H R →
    wpAny (model X.prog X.w) X.A (eval iter X.env) (fun v s1 => wpAny (model X.prog X.w) X.A (pyIter v) (PIE X pins σ tg R) X.xe s1) X.xe s

/-- the step ahead of the store is nothing for an iterator that keeps no tuple -/
theorem go_of {M : Model} {A : Around} {E : Value → Shared → Prop} {s : Shared} {tg : Expr} {it : Addr} {u : Value} {o : Obj} {n : String} {vs : Array Value} {Q : Unit → Shared → Prop} (ho : s.heap.get? it = some o) (hc : o.cls = .type n) (hd : o.data = .fields vs)
    (hn : ["enumerate", "zip", "dict_itemiterator", "dict_reverseitemiterator", "odict_iterator", "itertools.zip_longest", "itertools.pairwise"].contains n = false) (hQ : Q () s) : wpAny M A (letOwnedTupleGo tg (.ref it) u) Q E s := by
  unfold letOwnedTupleGo
  cases tg <;> first
    | exact wpAny_pure hQ
    | (cases u <;> first
        | exact wpAny_pure hQ
        | (refine wpAny_bind (wpAny_load ho ?_)
           rw [hc, hd]
           show wpAny M A (if (["enumerate", "zip", "dict_itemiterator", "dict_reverseitemiterator", "odict_iterator", "itertools.zip_longest", "itertools.pairwise"].contains n && vs[0]? == some (rawInt _)) = true then _ else _) Q E s
           rw [if_neg (by intro h; rw [hn, Bool.false_and] at h; cases h)]
           exact wpAny_pure hQ))

/-- the list at a, as it stands at each turn (a loop may append to it) -/
noncomputable def Itl (K : PySem.W.Frag) (a : Addr) : It :=
  ⟨fun i H => ∃ xs x, SqL K H a xs ∧ xs[i]? = some x, fun i H x H' => H' = H ∧ ∀ xs, SqL K H a xs → xs[i]? = some x, fun i H => ∃ xs, SqL K H a xs ∧ xs.length ≤ i⟩
noncomputable def Itt (K : PySem.W.Frag) (a : Addr) : It :=
  ⟨fun i H => ∃ xs x, SqT K H a xs ∧ xs[i]? = some x, fun i H x H' => H' = H ∧ ∀ xs, SqT K H a xs → xs[i]? = some x, fun i H => ∃ xs, SqT K H a xs ∧ xs.length ≤ i⟩
/-- lo, lo + 1, .. (n of them) -/
noncomputable def Itr (lo : Int) (n : Nat) : It := ⟨fun i _ => i < n, fun i H x H' => H' = H ∧ x = .int (lo + i), fun i _ => n ≤ i⟩
theorem turn_list {P : Program} {w : World} {K : PySem.W.Frag} {tg : Expr} (a it : Addr) : Turn P w K tg (Itl K a) [it] it (fun i h => h.IsListIter it a i) where
  mem := by simp
  obj := fun i h st b hb => by
    have e : b = it := by simpa using hb
    subst e
    obtain ⟨o, e, c, d⟩ := st
    exact ⟨o, e, fun v z => by rw [d] at z; cases z⟩
  keep := fun i h h' st k => st.at fun o e => k it (by simp) o e
  item := by
    intro X hP hw hK hc i pins s σ H E I hf st hg
    subst hP hw hK
    obtain ⟨xs, x, hq, hx⟩ := hg
    obtain ⟨its, rv, p, hz⟩ := I.list hq
    obtain ⟨u, hu, ru⟩ := rv.get hx
    obtain ⟨f0, f1, f2, f3, f4, f5⟩ := hf it (by simp)
    refine wpAny_pyNext_list_item st p.isList (x := u) (by simpa using hu) fun h' st' sb => ?_
    have I1 : Inv X pins σ H { s with heap := h' } := I.turned (t' := s.toks) (fun b o hb e => (sb.2 b hb).trans e) f0 f1 f3 f4 f5
    obtain ⟨o, e, c, d⟩ := id st'
    exact ⟨u, rfl, go_of (s := { s with heap := h' }) e c d (by decide) ⟨x, H, I1, ru, ⟨rfl, fun ys hy => by rw [I.list_inj hy hq]; exact hx⟩, st', fun b hb => (hf b hb).1⟩⟩
  done := by
    intro X hP hw hK hc i pins s σ H E I hf st hg
    subst hP hw hK
    obtain ⟨xs, hq, hx⟩ := hg
    obtain ⟨its, rv, p, hz⟩ := I.list hq
    obtain ⟨f0, f1, f2, f3, f4, f5⟩ := hf it (by simp)
    have hl := rv.length
    exact wpAny_pyNext_list_end (I.ok.hd hc) st p.isList (by simp; omega) fun h' eb => ⟨rfl, I.turned (t' := s.toks) (fun b o hb e => eb b o hb e) f0 f1 f3 f4 f5⟩
  self := fun _ _ _ _ _ st h => wpAny_pyIter_listiter st h
theorem turn_tuple {P : Program} {w : World} {K : PySem.W.Frag} {tg : Expr} (a it : Addr) : Turn P w K tg (Itt K a) [it] it (fun i h => h.IsTupleIter it a i) where
  mem := by simp
  obj := fun i h st b hb => by
    have e : b = it := by simpa using hb
    subst e
    obtain ⟨o, e, c, d⟩ := st
    exact ⟨o, e, fun v z => by rw [d] at z; cases z⟩
  keep := fun i h h' st k => st.at fun o e => k it (by simp) o e
  item := by
    intro X hP hw hK hc i pins s σ H E I hf st hg
    subst hP hw hK
    obtain ⟨xs, x, hq, hx⟩ := hg
    obtain ⟨its, rv, p, hz⟩ := I.tuple hq
    obtain ⟨u, hu, ru⟩ := rv.get hx
    obtain ⟨f0, f1, f2, f3, f4, f5⟩ := hf it (by simp)
    refine wpAny_pyNext_tuple_item st (show s.heap.IsTuple a its.toArray from p) (x := u) (by simpa using hu) fun h' st' sb => ?_
    have I1 : Inv X pins σ H { s with heap := h' } := I.turned (t' := s.toks) (fun b o hb e => (sb.2 b hb).trans e) f0 f1 f3 f4 f5
    obtain ⟨o, e, c, d⟩ := id st'
    exact ⟨u, rfl, go_of (s := { s with heap := h' }) e c d (by decide) ⟨x, H, I1, ru, ⟨rfl, fun ys hy => by rw [I.tuple_inj hy hq]; exact hx⟩, st', fun b hb => (hf b hb).1⟩⟩
  done := by
    intro X hP hw hK hc i pins s σ H E I hf st hg
    subst hP hw hK
    obtain ⟨xs, hq, hx⟩ := hg
    obtain ⟨its, rv, p, hz⟩ := I.tuple hq
    obtain ⟨f0, f1, f2, f3, f4, f5⟩ := hf it (by simp)
    have hl := rv.length
    exact wpAny_pyNext_tuple_end (I.ok.hd hc) st (show s.heap.IsTuple a its.toArray from p) (by simp; omega) fun h' eb => ⟨rfl, I.turned (t' := s.toks) (fun b o hb e => eb b o hb e) f0 f1 f3 f4 f5⟩
  self := fun _ _ _ _ _ st h => wpAny_pyIter_tupleiter st h
theorem turn_range {P : Program} {w : World} {K : PySem.W.Frag} {tg : Expr} (it : Addr) (lo : Int) (n : Nat) : Turn P w K tg (Itr lo n) [it] it (fun i h => IsRangeIter h it (lo + (i : Nat) * 1) ((n : Int) - (i : Nat)) 1) where
  mem := by simp
  obj := fun i h st b hb => by
    have e : b = it := by simpa using hb
    subst e
    exact ⟨_, st, fun v z => by
      have z' : Data.fields _ = Data.cell v := z
      cases z'⟩
  keep := fun i h h' st k => k it (by simp) _ st
  item := by
    intro X hP hw hK hc i pins s σ H E I hf st hg
    subst hP hw hK
    obtain ⟨f0, f1, f2, f3, f4, f5⟩ := hf it (by simp)
    have W := Walks.range (prog := X.prog) (w := X.w) (I.ok.hd hc) it lo 1 n
    refine W.item i s _ _ hg st fun v h' tk hv st' kk => ?_
    obtain ⟨t, rfl⟩ := hv
    have I1 : Inv X pins σ H { s with heap := h', toks := tk } := I.turned (fun b o hb e => kk b o (by simpa using hb) e) f0 f1 f3 f4 f5
    refine ⟨_, rfl, go_of (s := { s with heap := h', toks := tk }) (n := "range_iterator") st' rfl rfl (by decide) ⟨.int (lo + i), H, I1, ⟨t, ?_⟩, ⟨rfl, rfl⟩, st', fun b hb => (hf b hb).1⟩⟩
    rw [Int.mul_one]
  done := by
    intro X hP hw hK hc i pins s σ H E I hf st hg
    subst hP hw hK
    obtain ⟨f0, f1, f2, f3, f4, f5⟩ := hf it (by simp)
    exact wpAny_pyNext_range_end (I.ok.hd hc) st (by have : n ≤ i := hg; omega) fun h' eb => ⟨rfl, I.turned (t' := s.toks) (fun b o hb e => eb b o hb e) f0 f1 f3 f4 f5⟩
  self := fun _ _ _ _ _ st h => wpAny_pyIter_rangeiter st h
end L2

namespace L2
open PySem PySem.Spec PyProof.Rows
section
variable {X : Cx} {tg : Expr}
noncomputable def iList (K : PySem.W.Frag) (tl : TE) : TI := fun σ H R => tl σ H fun x H1 => ∃ a, x = .ref a ∧ (∃ xs, SqL K H1 a xs) ∧ R (Itl K a) H1
noncomputable def iTup (K : PySem.W.Frag) (tl : TE) : TI := fun σ H R => tl σ H fun x H1 => ∃ a, x = .ref a ∧ (∃ xs, SqT K H1 a xs) ∧ R (Itt K a) H1
theorem pi_list {l : Expr} {tl : TE} (hl : PE X l tl) : PI X tg l (iList X.K tl) := by
  intro pins s σ H R I h
  refine thn (hl pins s σ H _ I h) fun v s1 ⟨x, H1, I1, r1, q1⟩ => ?_
  obtain ⟨a, e, ⟨xs, hq⟩, q⟩ := q1
  subst e
  cases r1
  obtain ⟨its, rv, p, hz⟩ := I1.list hq
  refine wpAny_pyIter_list p.isList ?_
  refine ⟨s1.heap.objs.size, [s1.heap.objs.size], _, _, H1, rfl, I1.kept (t' := s1.toks) fun b o e => Heap.get?_push_of_some _ e, turn_list a _, ⟨_, Heap.get?_push_size _ rfl, rfl, rfl⟩, fun b hb => ?_, q⟩
  have e : b = s1.heap.objs.size := by simpa using hb
  subst e
  exact I1.fpOk (Nat.le_refl _) (I1.hok.fresh (Nat.le_refl _))
theorem pi_tup {l : Expr} {tl : TE} (hl : PE X l tl) : PI X tg l (iTup X.K tl) := by
  intro pins s σ H R I h
  refine thn (hl pins s σ H _ I h) fun v s1 ⟨x, H1, I1, r1, q1⟩ => ?_
  obtain ⟨a, e, ⟨xs, hq⟩, q⟩ := q1
  subst e
  cases r1
  obtain ⟨its, rv, p, hz⟩ := I1.tuple hq
  refine wpAny_pyIter_tuple (show s1.heap.IsTuple a its.toArray from p) ?_
  refine ⟨s1.heap.objs.size, [s1.heap.objs.size], _, _, H1, rfl, I1.kept (t' := s1.toks) fun b o e => Heap.get?_push_of_some _ e, turn_tuple a _, ⟨_, Heap.get?_push_size _ rfl, rfl, rfl⟩, fun b hb => ?_, q⟩
  have e : b = s1.heap.objs.size := by simpa using hb
  subst e
  exact I1.fpOk (Nat.le_refl _) (I1.hok.fresh (Nat.le_refl _))
/-- a range object just made, walked -/
theorem range_it {pins : List (Addr × Obj)} {σ : St} {H : Hp} {s : Shared} {R : It → Hp → Prop} {E : Value → Shared → Prop} {lo hi : Int} {t u v : Tok} {tk : Nat} (I : Inv X pins σ H s) (h1 : -(2 ^ 62) ≤ lo) (h2 : lo < 2 ^ 62) (h3 : -(2 ^ 62) ≤ hi) (h4 : hi < 2 ^ 62)
    (q : R (Itr lo (hi - lo).toNat) H) : wpAny (model X.prog X.w) X.A (pyIter (.ref s.heap.objs.size)) (PIE X pins σ tg R) E { s with heap := s.heap.push { cls := .type "range", data := .fields #[.int lo t, .int hi u, .int 1 v] }, toks := tk } := by
  refine wpAny_pyIter_range (IsRange.new ..) (small_one h1 h2 h3 h4) ?_
  have I1 : Inv X pins σ H { s with heap := s.heap.push { cls := .type "range", data := .fields #[.int lo t, .int hi u, .int 1 v] }, toks := tk } := I.kept fun b o e => Heap.get?_push_of_some _ e
  refine ⟨(s.heap.push { cls := .type "range", data := .fields #[.int lo t, .int hi u, .int 1 v] }).objs.size, [(s.heap.push { cls := .type "range", data := .fields #[.int lo t, .int hi u, .int 1 v] }).objs.size], _, _, H, rfl,
    I1.kept (t' := tk) fun b o e => Heap.get?_push_of_some _ e, turn_range _ lo (hi - lo).toNat, ?_, fun b hb => ?_, q⟩
  · have e1 : lo + ((0 : Nat) : Int) * 1 = lo := by simp
    have e2 : (((hi - lo).toNat : Nat) : Int) - ((0 : Nat) : Int) = Builtin.Range.rangeSize lo hi 1 := by rw [rangeSize_one]; split <;> omega
    show IsRangeIter _ _ (lo + ((0 : Nat) : Int) * 1) ((((hi - lo).toNat : Nat) : Int) - ((0 : Nat) : Int)) 1
    rw [e1, e2]
    exact Heap.get?_push_size _ rfl
  · have e : b = (s.heap.push { cls := .type "range", data := .fields #[.int lo t, .int hi u, .int 1 v] }).objs.size := by simpa using hb
    subst e
    exact I1.fpOk (Nat.le_refl _) (I1.hok.fresh (Nat.le_refl _))
noncomputable def iRng1 (ta : TA) : TI := fun σ H R => ta σ H fun vs H1 => ∃ j : Int, vs = [.int j] ∧ -(2 ^ 62) ≤ j ∧ j < 2 ^ 62 ∧ R (Itr 0 j.toNat) H1
theorem pi_range1 {a : Expr} {ta : TA} {p pos : Pos} (hg : Gl X "range") (hm : X.mg "range" = none) (ha : PA X [a] ta) (hs : starEach [a] X.env = [(false, eval a X.env)] := by rfl) : PI X tg (.Call (.Name "range" p) [a] [] pos) (iRng1 ta) := by
  intro pins s σ H R I h
  refine Call_ (ld_blt I hg hm boot_range (PyProof.Rows.callWith_type1 (thn (ha pos pins s σ H _ I h) fun us s1 ⟨vs, H1, I1, r1, q1⟩ => ?_) hs rfl))
  obtain ⟨j, e, q1, q2, q⟩ := q1
  subst e
  cases r1 with
  | cons r rr =>
    cases rr
    obtain ⟨t, rfl⟩ := r
    exact call_range_1 (range_it I1 (by omega) (by omega) q1 q2 (by simpa using q))

/-! ### for -/
/-- W: the invariant by the turn and a measure; N: what the body is to reach -/
noncomputable def tFor (wi : TI) (g : TG) (tb : TS) : TS := fun D σ H => wi σ H fun J H1 => ∃ W : Nat → Nat → St → Hp → Prop, (∃ m, W 0 m σ H1) ∧ ∀ i m σ H, W i m σ H →
  (J.stop i H ∧ D.nx σ H) ∨ (J.go i H ∧ ∃ N : St → Hp → Prop, (∀ σ' H', N σ' H' → ∃ m', m' < m ∧ W (i + 1) m' σ' H') ∧ ∀ x H', J.yld i H x H' → g x σ H' fun σ2 H2 => tb { D with nx := N, ct := N, bk := D.nx } σ2 H2)
/-- the records at fp as they stand -/
noncomputable def pinsAt (fp : List Addr) (h : Heap) : List (Addr × Obj) := fp.filterMap fun b => (h.get? b).map fun o => (b, o)
theorem mem_pinsAt {fp : List Addr} {h : Heap} {b : Addr} {o : Obj} (hb : b ∈ fp) (e : h.get? b = some o) : (b, o) ∈ pinsAt fp h := List.mem_filterMap.mpr ⟨b, hb, by rw [e]; rfl⟩
theorem of_pinsAt {fp : List Addr} {h : Heap} {p : Addr × Obj} (hp : p ∈ pinsAt fp h) : p.1 ∈ fp ∧ h.get? p.1 = some p.2 := by
  obtain ⟨b, hb, e⟩ := List.mem_filterMap.mp hp
  cases q : h.get? b with
  | none => rw [q] at e; cases e
  | some o =>
    rw [q] at e
    have e' : (b, o) = p := Option.some.inj e
    subst e'
    exact ⟨hb, q⟩
theorem Inv.pinned {pins : List (Addr × Obj)} {σ : St} {H : Hp} {s : Shared} {fp : List Addr} (I : Inv X pins σ H s) (hf : ∀ b ∈ fp, FpOk X pins H b) (ho : ∀ b ∈ fp, ∃ o, s.heap.get? b = some o ∧ ∀ v, o.data ≠ .cell v) : Inv X (pins ++ pinsAt fp s.heap) σ H s :=
  I.pins_of fun p hp => (List.mem_append.mp hp).elim (fun z => I.pin p (List.mem_append_right _ z)) fun z => by
    obtain ⟨hb, e⟩ := of_pinsAt z
    obtain ⟨f0, f1, f2, _⟩ := hf p.1 hb
    obtain ⟨o, e', d⟩ := ho p.1 hb
    rw [e] at e'; cases e'
    exact ⟨e, f0, f1, f2, d⟩
theorem Inv.unpinned {pins pl : List (Addr × Obj)} {σ : St} {H : Hp} {s : Shared} (I : Inv X (pins ++ pl) σ H s) : Inv X pins σ H s := I.pins_of fun p hp => I.pin p (List.mem_append_right _ (List.mem_append_left _ hp))
theorem ps_for {iter : Expr} {body : List Stmt} {wi : TI} {g : TG} {tb : TS} {pos : Pos} (hp : PassesOwn (model X.prog X.w) X.A X.env X.xe) (hc : X.calm = true) (hi : PI X tg iter wi) (hg : PG X tg g) (hb : PSs X body tb)
    (hs : ∀ x, foldedSetIterable iter X.env x = pure x := by intro _; rfl) : PS X (.For tg iter body [] pos) (tFor wi g tb) := by
  intro pins s σ H D I h
  refine wpAny_For (thn (hi pins s σ H _ I h) fun v s1 h1 => thn h1 fun itv s2 h2 => ?_) hs
  obtain ⟨it, fp, tn, J, H2, e, I2, T, st2, f2, W, ⟨m0, w0⟩, turn⟩ := h2
  subst e
  -- what stays true of the iterator's objects through the loop
  have stat : ∀ {H' : Hp}, (∀ b ∈ fp, H' b = none) → ∀ b ∈ fp, FpOk X pins H' b := fun hn b hb => ⟨hn b hb, (f2 b hb).2⟩
  refine codeAny_forLoop_any (fun n s' => ∃ i σ' H', Inv X pins σ' H' s' ∧ tn i s'.heap ∧ (∀ b ∈ fp, H' b = none) ∧ W i n σ' H') ?_ m0 ⟨0, σ, H2, I2, st2, fun b hb => (f2 b hb).1, w0⟩
  rintro n s3 ⟨i, σ3, H3, I3, st3, fr3, w3⟩
  rcases turn i n σ3 H3 w3 with ⟨stop, qn⟩ | ⟨go, N, hN, step⟩
  · refine wpAny_passesOwn hp (thn (T.done X rfl rfl rfl hc i pins s3 σ3 H3 X.xe I3 (stat fr3) st3 stop) fun r s4 ⟨hr, I4⟩ => ?_)
    subst hr
    exact wpAny_execs_nil ⟨σ3, H3, I4, qn⟩
  · refine wpAny_passesOwn hp (thn (T.item X rfl rfl rfl hc i pins s3 σ3 H3 X.xe I3 (stat fr3) st3 go) fun r s4 ⟨u, hr, h4⟩ => ?_)
    subst hr
    refine wpAny_passesOwn hp (thn h4 fun _ s5 ⟨x, H5, I5, r5, y5, st5, fr5⟩ => ?_)
    have I5' := I5.pinned (stat fr5) (T.obj _ _ st5)
    refine wpAny_passesOwn hp (thn (hg _ s5 σ3 H5 x u _ I5' r5 (step x H5 y5)) fun _ s6 ⟨σ6, H6, I6, q6⟩ => ?_)
    refine wpAny_passesOwn hp (thn (hb _ s6 σ6 H6 _ I6 q6) fun f s7 q7 => ?_)
    have again : ∀ {σ7 : St} {H7 : Hp}, Inv X (pins ++ pinsAt fp s5.heap) σ7 H7 s7 → N σ7 H7 → ∃ m, m < n ∧ ∃ i σ' H', Inv X pins σ' H' s7 ∧ tn i s7.heap ∧ (∀ b ∈ fp, H' b = none) ∧ W i m σ' H' := fun {σ7 H7} I7 n7 => by
      obtain ⟨m', hm, w7⟩ := hN σ7 H7 n7
      refine ⟨m', hm, i + 1, σ7, H7, I7.unpinned, T.keep _ _ _ st5 fun b hb o e => (I7.pin (b, o) (List.mem_append_right _ (List.mem_append_right _ (mem_pinsAt hb e)))).1, fun b hb => ?_, w7⟩
      obtain ⟨o, e, d⟩ := T.obj _ _ st5 b hb
      exact (I7.pin (b, o) (List.mem_append_right _ (List.mem_append_right _ (mem_pinsAt hb e)))).2.1
    cases f with
    | next => obtain ⟨σ7, H7, I7, n7⟩ := q7; exact again I7 n7
    | cont => obtain ⟨σ7, H7, I7, n7⟩ := q7; exact again I7 n7
    | brk => obtain ⟨σ7, H7, I7, q7⟩ := q7; exact ⟨σ7, H7, I7.unpinned, q7⟩
    | ret v => obtain ⟨x7, σ7, H7, I7, r7, q7⟩ := q7; exact ⟨x7, σ7, H7, I7.unpinned, r7, q7⟩
end

/-! ### the forms one uses -/
/-- over a list that the body leaves as it is -/
theorem for_list {K : PySem.W.Frag} {a : Addr} {xs : List V} {g : TG} {tb : TS} {D : Ends} {σ : St} {H : Hp} (Pv : Nat → St → Hp → Prop) (h0 : Pv 0 σ H) (hl : ∀ i σ H, i ≤ xs.length → Pv i σ H → SqL K H a xs)
    (hs : ∀ i x σ H, xs[i]? = some x → Pv i σ H → g x σ H fun σ2 H2 => tb { D with nx := Pv (i + 1), ct := Pv (i + 1), bk := D.nx } σ2 H2) (hd : ∀ σ H, Pv xs.length σ H → D.nx σ H) :
    ∃ W : Nat → Nat → St → Hp → Prop, (∃ m, W 0 m σ H) ∧ ∀ i m σ H, W i m σ H →
      ((Itl K a).stop i H ∧ D.nx σ H) ∨ ((Itl K a).go i H ∧ ∃ N : St → Hp → Prop, (∀ σ' H', N σ' H' → ∃ m', m' < m ∧ W (i + 1) m' σ' H') ∧ ∀ x H', (Itl K a).yld i H x H' → g x σ H' fun σ2 H2 => tb { D with nx := N, ct := N, bk := D.nx } σ2 H2) := by
  refine ⟨fun i m σ H => m = xs.length - i ∧ i ≤ xs.length ∧ Pv i σ H, ⟨xs.length, by simp, Nat.zero_le _, h0⟩, ?_⟩
  rintro i m σ H ⟨rfl, hi, p⟩
  have q := hl i σ H hi p
  by_cases hlt : i < xs.length
  · refine .inr ⟨⟨xs, xs[i], q, by simp [hlt]⟩, Pv (i + 1), fun σ' H' p' => ⟨xs.length - (i + 1), by omega, rfl, hlt, p'⟩, fun x H' y => ?_⟩
    obtain ⟨e, y⟩ := y
    subst e
    exact hs i x σ _ (y xs q) p
  · have e : i = xs.length := by omega
    subst e
    exact .inl ⟨⟨xs, q, Nat.le_refl _⟩, hd σ H p⟩
theorem for_tup {K : PySem.W.Frag} {a : Addr} {xs : List V} {g : TG} {tb : TS} {D : Ends} {σ : St} {H : Hp} (Pv : Nat → St → Hp → Prop) (h0 : Pv 0 σ H) (hl : ∀ i σ H, i ≤ xs.length → Pv i σ H → SqT K H a xs)
    (hs : ∀ i x σ H, xs[i]? = some x → Pv i σ H → g x σ H fun σ2 H2 => tb { D with nx := Pv (i + 1), ct := Pv (i + 1), bk := D.nx } σ2 H2) (hd : ∀ σ H, Pv xs.length σ H → D.nx σ H) :
    ∃ W : Nat → Nat → St → Hp → Prop, (∃ m, W 0 m σ H) ∧ ∀ i m σ H, W i m σ H →
      ((Itt K a).stop i H ∧ D.nx σ H) ∨ ((Itt K a).go i H ∧ ∃ N : St → Hp → Prop, (∀ σ' H', N σ' H' → ∃ m', m' < m ∧ W (i + 1) m' σ' H') ∧ ∀ x H', (Itt K a).yld i H x H' → g x σ H' fun σ2 H2 => tb { D with nx := N, ct := N, bk := D.nx } σ2 H2) := by
  refine ⟨fun i m σ H => m = xs.length - i ∧ i ≤ xs.length ∧ Pv i σ H, ⟨xs.length, by simp, Nat.zero_le _, h0⟩, ?_⟩
  rintro i m σ H ⟨rfl, hi, p⟩
  have q := hl i σ H hi p
  by_cases hlt : i < xs.length
  · refine .inr ⟨⟨xs, xs[i], q, by simp [hlt]⟩, Pv (i + 1), fun σ' H' p' => ⟨xs.length - (i + 1), by omega, rfl, hlt, p'⟩, fun x H' y => ?_⟩
    obtain ⟨e, y⟩ := y
    subst e
    exact hs i x σ _ (y xs q) p
  · have e : i = xs.length := by omega
    subst e
    exact .inl ⟨⟨xs, q, Nat.le_refl _⟩, hd σ H p⟩
end L2

namespace L2
open PySem PySem.Spec PyProof.Rows

noncomputable abbrev R2 := V → V → Hp → VK → Prop
/-- a two-place operation on values: f is binaryOp op, inplaceOp op or compareOp op -/
noncomputable def OpR (X : Cx) (f : Value → Value → Sem Value) (r : R2) : Prop :=
  ∀ (pins : List (Addr × Obj)) (s : Shared) (σ : St) (H : Hp) (x y : V) (v u : Value) (Q : VK), Inv X pins σ H s → RelV x v → RelV y u → r x y H Q →
    wpAny (model X.prog X.w) X.A (f v u) (EP X pins σ Q) X.xe s
/-- a call of a value that is known (a builtin, a type) with values -/
noncomputable def CallR (X : Cx) (f : Value) (r : List V → Hp → VK → Prop) : Prop :=
  ∀ (pins : List (Addr × Obj)) (s : Shared) (σ : St) (H : Hp) (xs : List V) (us : List Value) (Q : VK), Inv X pins σ H s → Vals xs us → r xs H Q →
    wpAny (model X.prog X.w) X.A (call f us) (EP X pins σ Q) X.xe s
/-- a value's truth -/
noncomputable def TruR (X : Cx) (r : V → Hp → (Bool → Hp → Prop) → Prop) : Prop :=
  ∀ (pins : List (Addr × Obj)) (s : Shared) (σ : St) (H : Hp) (x : V) (v : Value) (Q : Bool → Hp → Prop), Inv X pins σ H s → RelV x v → r x H Q →
    wpAny (model X.prog X.w) X.A (truthy v) (TP X pins σ Q) X.xe s

noncomputable def tOp (r : R2) (ta tb : TE) : TE := fun σ H Q => ta σ H fun x H1 => tb σ H1 fun y H2 => r x y H2 Q
/-- ints in, under C, and a value out -/
noncomputable def rI (C : Int → Int → Prop) (g : Int → Int → V) : R2 := fun x y H Q => ∃ i j, x = .int i ∧ y = .int j ∧ C i j ∧ Q (g i j) H
noncomputable def rI0 (g : Int → Int → V) : R2 := fun x y H Q => ∃ i j, x = .int i ∧ y = .int j ∧ Q (g i j) H

section
variable {X : Cx} {a b c : Expr} {ta tb tc : TE} {pos : Pos}

theorem binT (ha : PE X a ta) (hb : PE X b tb) {pins : List (Addr × Obj)} {s : Shared} {σ : St} {H : Hp} {R : V → V → Hp → Prop} (I : Inv X pins σ H s)
    (h : ta σ H fun x H1 => tb σ H1 fun y H2 => R x y H2) {Q : Value → Shared → Prop} {f : Value → Value → Sem Value}
    (hf : ∀ v u s2 x y H2, Inv X pins σ H2 s2 → RelV x v → RelV y u → R x y H2 → wpAny (model X.prog X.w) X.A (f v u) Q X.xe s2) :
    wpAny (model X.prog X.w) X.A (eval a X.env) (fun v s₁ => wpAny (model X.prog X.w) X.A (eval b X.env) (fun u s₂ => wpAny (model X.prog X.w) X.A (f v u) Q X.xe s₂) X.xe s₁) X.xe s := by
  refine thn (ha pins s σ H _ I h) fun v s1 ⟨x, H1, I1, r1, q1⟩ => ?_
  refine thn (hb pins s1 σ H1 _ I1 q1) fun u s2 ⟨y, H2, I2, r2, q2⟩ => ?_
  exact hf v u s2 x y H2 I2 r1 r2 q2

theorem pe_op {op : Operator} {r : R2} (ho : OpR X (binaryOp op) r) (ha : PE X a ta) (hb : PE X b tb) : PE X (.BinOp a op b pos) (tOp r ta tb) := by
  intro pins s σ H Q I h
  exact wpAny_BinOp (binT ha hb I h fun v u s2 x y H2 I2 rx ry q => ho pins s2 σ H2 x y v u Q I2 rx ry q)

/-! ### ints -/
theorem opI {f : Value → Value → Sem Value} {C : Int → Int → Prop} {g : Int → Int → Int}
    (rule : ∀ (i j : Int) (t u : Tok) (s : Shared) (Q : Value → Shared → Prop) (E : Value → Shared → Prop), C i j → Q (.int (g i j) s.toks) { s with toks := s.toks + 1 } → wpAny (model X.prog X.w) X.A (f (.int i t) (.int j u)) Q E s) :
    OpR X f (rI C fun i j => .int (g i j)) := by
  intro pins s σ H x y v u Q I rx ry h
  obtain ⟨i, j, rfl, rfl, hc, q⟩ := h
  obtain ⟨t, rfl⟩ := rx
  obtain ⟨t', rfl⟩ := ry
  exact rule i j t t' s _ _ hc ⟨.int (g i j), H, I.tok _, ⟨_, rfl⟩, q⟩
theorem opI0 {f : Value → Value → Sem Value} {g : Int → Int → Int}
    (rule : ∀ (i j : Int) (t u : Tok) (s : Shared) (Q : Value → Shared → Prop) (E : Value → Shared → Prop), Q (.int (g i j) s.toks) { s with toks := s.toks + 1 } → wpAny (model X.prog X.w) X.A (f (.int i t) (.int j u)) Q E s) :
    OpR X f (rI0 fun i j => .int (g i j)) := by
  intro pins s σ H x y v u Q I rx ry h
  obtain ⟨i, j, rfl, rfl, q⟩ := h
  obtain ⟨t, rfl⟩ := rx
  obtain ⟨t', rfl⟩ := ry
  exact rule i j t t' s _ _ ⟨.int (g i j), H, I.tok _, ⟨_, rfl⟩, q⟩
theorem opB0 {f : Value → Value → Sem Value} {g : Int → Int → Bool}
    (rule : ∀ (i j : Int) (t u : Tok) (s : Shared) (Q : Value → Shared → Prop) (E : Value → Shared → Prop), Q (.bool (g i j)) s → wpAny (model X.prog X.w) X.A (f (.int i t) (.int j u)) Q E s) :
    OpR X f (rI0 fun i j => .bl (g i j)) := by
  intro pins s σ H x y v u Q I rx ry h
  obtain ⟨i, j, rfl, rfl, q⟩ := h
  obtain ⟨t, rfl⟩ := rx
  obtain ⟨t', rfl⟩ := ry
  exact rule i j t t' s _ _ ⟨.bl (g i j), H, I, rfl, q⟩

noncomputable def CPow (i j : Int) : Prop := 0 ≤ j ∧ j ≤ 1000000 ∧ i.natAbs < 2 ^ 64
noncomputable def CMul (i j : Int) : Prop := (-(2 ^ 64) < i ∧ i < 2 ^ 64) ∨ (-(2 ^ 64) < j ∧ j < 2 ^ 64)
theorem CMul.ok {i j : Int} (h : CMul i j) : IntMulOk i j := by
  rcases h with ⟨h1, h2⟩ | ⟨h1, h2⟩
  · exact .of_left (intBits_le_64 h1 h2)
  · exact .of_right (intBits_le_64 h1 h2)

theorem op_add : OpR X (binaryOp .Add) (rI0 fun i j => .int (i + j)) := opI0 fun _ _ _ _ _ _ _ q => add_int q
theorem op_sub : OpR X (binaryOp .Sub) (rI0 fun i j => .int (i - j)) := opI0 fun _ _ _ _ _ _ _ q => sub_int q
theorem op_mul : OpR X (binaryOp .Mult) (rI CMul fun i j => .int (i * j)) := opI fun _ _ _ _ _ _ _ hc q => mul_int q hc.ok
/-- % by a positive divisor of any size -/
theorem op_mod : OpR X (binaryOp .Mod) (rI (fun _ j => 0 < j) fun i j => .int (i % j)) := opI fun i j _ _ _ _ _ hc q => by
  have h1 : (0 : Int) < j := hc
  exact mod_int' (by omega) (by rw [Int.fmod_eq_emod_of_nonneg i (by omega)]; exact q)
theorem op_pow : OpR X (binaryOp .Pow) (rI CPow fun i j => .int (i ^ j.toNat)) := opI fun _ _ _ _ _ _ _ hc q => pow_int_small hc.1 hc.2.1 hc.2.2 q



/-! ### bools among ints: n += (a < b) -/
end

/-! ### comparisons -/
/-- the scalars that == tells apart as data does -/
noncomputable def scal : V → V → Bool
  | .non, .non => true | .non, .int _ => true | .int _, .non => true | .non, .bl _ => true | .bl _, .non => true | .non, .str _ => true | .str _, .non => true
  | .int _, .int _ => true | .bl _, .bl _ => true | .str _, .str _ => true | .byt _, .byt _ => true
  | .int _, .str _ => true | .str _, .int _ => true | .bl _, .str _ => true | .str _, .bl _ => true
  | _, _ => false
noncomputable def rEq : R2 := fun x y H Q => scal x y = true ∧ Q (.bl (decide (x = y))) H
noncomputable def rNe : R2 := fun x y H Q => scal x y = true ∧ Q (.bl (!decide (x = y))) H

theorem dec_int {i j : Int} : decide (V.int i = V.int j) = (i == j) := by
  rw [Bool.eq_iff_iff]
  simp
theorem dec_bl {i j : Bool} : decide (V.bl i = V.bl j) = (i == j) := by
  rw [Bool.eq_iff_iff]
  simp
theorem dec_str {i j : Str} : decide (V.str i = V.str j) = (i == j) := by
  rw [Bool.eq_iff_iff]
  simp
theorem dec_byt {i j : Array UInt8} : decide (V.byt i = V.byt j) = (i.toList == j.toList) := by
  rw [Bool.eq_iff_iff]
  cases i
  cases j
  simp

section
variable {X : Cx} {a b c : Expr} {ta tb tc : TE} {pos : Pos}
theorem fin_bl {pins : List (Addr × Obj)} {σ : St} {H : Hp} {s : Shared} {Q : VK} {k k' : Bool} (I : Inv X pins σ H s) (q : Q (.bl k) H) (e : k = k') : EP X pins σ Q (.bool k') s := by
  subst e
  exact ⟨.bl k, H, I, rfl, q⟩
theorem op_eq : OpR X (compareOp .Eq) rEq := by
  intro pins s σ H x y v u Q I rx ry h
  obtain ⟨hs, q⟩ := h
  cases x with
  | non =>
    cases rx
    cases y with
    | non => cases ry; exact PySem.EqNone.eq_none_none (fin_bl I q (by simp))
    | bl j => cases ry; exact PySem.EqNone.eq_none_bool (fin_bl I q (by simp))
    | int j => obtain ⟨t', rfl⟩ := ry; exact PySem.EqNone.eq_none_int (fin_bl I q (by simp))
    | str j => obtain ⟨t', rfl⟩ := ry; exact PySem.EqNone.eq_none_str (fin_bl I q (by simp))
    | _ => exact absurd (show false = true from hs) Bool.false_ne_true
  | bl i =>
    cases rx
    cases y with
    | non => cases ry; exact PySem.EqNone.eq_bool_none (fin_bl I q (by simp))
    | bl j => cases ry; exact eq_bool (fin_bl I q dec_bl)
    | str j => obtain ⟨t', rfl⟩ := ry; exact PySem.EqMixed.eq_bool_str (fin_bl I q (by simp))
    | _ => exact absurd (show false = true from hs) Bool.false_ne_true
  | int i =>
    obtain ⟨t, rfl⟩ := rx
    cases y with
    | non => cases ry; exact PySem.EqNone.eq_int_none (fin_bl I q (by simp))
    | int j => obtain ⟨t', rfl⟩ := ry; exact eq_int (fin_bl I q dec_int)
    | str j => obtain ⟨t', rfl⟩ := ry; exact PySem.EqMixed.eq_int_str (fin_bl I q (by simp))
    | _ => exact absurd (show false = true from hs) Bool.false_ne_true
  | str i =>
    obtain ⟨t, rfl⟩ := rx
    cases y with
    | non => cases ry; exact PySem.EqNone.eq_str_none (fin_bl I q (by simp))
    | bl j => cases ry; exact PySem.EqMixed.eq_str_bool (fin_bl I q (by simp))
    | int j => obtain ⟨t', rfl⟩ := ry; exact PySem.EqMixed.eq_str_int (fin_bl I q (by simp))
    | str j => obtain ⟨t', rfl⟩ := ry; exact eq_str (fin_bl I q dec_str)
    | _ => exact absurd (show false = true from hs) Bool.false_ne_true
  | byt i =>
    obtain ⟨t, rfl⟩ := rx
    cases y with
    | byt j => obtain ⟨t', rfl⟩ := ry; exact PySem.W.eq_bytes (fin_bl I q dec_byt)
    | _ => exact absurd (show false = true from hs) Bool.false_ne_true
  | _ => cases y <;> exact absurd (show false = true from hs) Bool.false_ne_true
theorem op_ne : OpR X (compareOp .NotEq) rNe := by
  intro pins s σ H x y v u Q I rx ry h
  obtain ⟨hs, q⟩ := h
  cases x with
  | non =>
    cases rx
    cases y with
    | non => cases ry; exact PySem.EqNone.ne_none_none (fin_bl I q (by simp))
    | bl j => cases ry; exact PySem.EqNone.ne_none_bool (fin_bl I q (by simp))
    | int j => obtain ⟨t', rfl⟩ := ry; exact PySem.EqNone.ne_none_int (fin_bl I q (by simp))
    | str j => obtain ⟨t', rfl⟩ := ry; exact PySem.EqNone.ne_none_str (fin_bl I q (by simp))
    | _ => exact absurd (show false = true from hs) Bool.false_ne_true
  | bl i =>
    cases rx
    cases y with
    | non => cases ry; exact PySem.EqNone.ne_bool_none (fin_bl I q (by simp))
    | bl j => cases ry; exact ne_bool (fin_bl I q (congrArg not dec_bl))
    | str j => obtain ⟨t', rfl⟩ := ry; exact PySem.EqMixed.ne_bool_str (fin_bl I q (by simp))
    | _ => exact absurd (show false = true from hs) Bool.false_ne_true
  | int i =>
    obtain ⟨t, rfl⟩ := rx
    cases y with
    | non => cases ry; exact PySem.EqNone.ne_int_none (fin_bl I q (by simp))
    | int j => obtain ⟨t', rfl⟩ := ry; exact ne_int (fin_bl I q (congrArg not dec_int))
    | str j => obtain ⟨t', rfl⟩ := ry; exact PySem.EqMixed.ne_int_str (fin_bl I q (by simp))
    | _ => exact absurd (show false = true from hs) Bool.false_ne_true
  | str i =>
    obtain ⟨t, rfl⟩ := rx
    cases y with
    | non => cases ry; exact PySem.EqNone.ne_str_none (fin_bl I q (by simp))
    | bl j => cases ry; exact PySem.EqMixed.ne_str_bool (fin_bl I q (by simp))
    | int j => obtain ⟨t', rfl⟩ := ry; exact PySem.EqMixed.ne_str_int (fin_bl I q (by simp))
    | str j => obtain ⟨t', rfl⟩ := ry; exact ne_str (fin_bl I q (congrArg not dec_str))
    | _ => exact absurd (show false = true from hs) Bool.false_ne_true
  | byt i =>
    obtain ⟨t, rfl⟩ := rx
    cases y with
    | byt j => obtain ⟨t', rfl⟩ := ry; exact PySem.W.ne_bytes (fin_bl I q (congrArg not dec_byt))
    | _ => exact absurd (show false = true from hs) Bool.false_ne_true
  | _ => cases y <;> exact absurd (show false = true from hs) Bool.false_ne_true

theorem op_lt : OpR X (compareOp .Lt) (rI0 fun i j => .bl (decide (i < j))) := opB0 fun _ _ _ _ _ _ _ q => lt_int q
theorem op_le : OpR X (compareOp .LtE) (rI0 fun i j => .bl (decide (i ≤ j))) := opB0 fun _ _ _ _ _ _ _ q => le_int q
theorem op_gt : OpR X (compareOp .Gt) (rI0 fun i j => .bl (decide (j < i))) := opB0 fun _ _ _ _ _ _ _ q => gt_int q
/-- the one string within the other -/
theorem op_in_str : OpR X (compareOp .In) (fun x y H Q => ∃ i j, x = .str i ∧ y = .str j ∧ Q (.bl (!(Builtin.Str.occurrences j i 0 j.length 1).isEmpty)) H) := by
  intro pins s σ H x y v u Q I rx ry h
  obtain ⟨i, j, rfl, rfl, q⟩ := h
  obtain ⟨t, rfl⟩ := rx
  obtain ⟨t', rfl⟩ := ry
  exact in_str (fin_bl I q rfl)




theorem nomark (b : Expr) {op : CmpOp} (h : op ≠ .In := by decide) (h2 : op ≠ .NotIn := by decide) : behindInMarks op b = false := by
  have e1 : (op == CmpOp.In) = false := by cases op <;> first | rfl | exact absurd rfl h
  have e2 : (op == CmpOp.NotIn) = false := by cases op <;> first | rfl | exact absurd rfl h2
  cases b <;> simp [behindInMarks, e1, e2]
/-- a comparison as a value; hm: nomark b, or (for in, not in) by with_unfolding_all rfl -/
theorem pe_cmpR {op : CmpOp} {r : R2} (ho : OpR X (compareOp op) r) (ha : PE X a ta) (hb : PE X b tb) (hm : behindInMarks op b = false) : PE X (.Compare a [op] [b] pos) (tOp r ta tb) := by
  intro pins s σ H Q I h
  exact wpAny_Compare1 (binT ha hb I h fun v u s2 x y H2 I2 rx ry q => ho pins s2 σ H2 x y v u Q I2 rx ry q) hm
/-- a reading of a value as a test -/
noncomputable def tTest (t : TE) : TT := fun σ H Q => t σ H fun x H' => ∃ k, x = .bl k ∧ Q k H'
theorem pt_cmpR {op : CmpOp} {r : R2} (ho : OpR X (compareOp op) r) (ha : PE X a ta) (hb : PE X b tb) (hm : behindInMarks op b = false) : PT X (.Compare a [op] [b] pos) (tTest (tOp r ta tb)) := by
  intro pins s σ H Q I h
  refine wpAny_isTrue_Compare1 (thn (ha pins s σ H _ I h) fun v s1 ⟨x, H1, I1, r1, q1⟩ => thn (hb pins s1 σ H1 _ I1 q1) fun u s2 ⟨y, H2, I2, r2, q2⟩ =>
    thn (ho pins s2 σ H2 x y v u _ I2 r1 r2 q2) fun c s3 ⟨z, H3, I3, r3, k, e, q3⟩ => ?_) hm
  subst e
  cases r3
  exact wpAny_truthy_bool ⟨H3, I3, q3⟩
/-- a op1 b op2 c -/
noncomputable def tChain (r r' : R2) (ta tb tc : TE) : TE := fun σ H Q => ta σ H fun x H1 => tb σ H1 fun y H2 => r x y H2 fun z H3 => ∃ k, z = .bl k ∧
  (if k = true then tc σ H3 fun w' H4 => r' y w' H4 Q else Q (.bl false) H3)
theorem pt_chain {op op' : CmpOp} {r r' : R2} (ho : OpR X (compareOp op) r) (ho' : OpR X (compareOp op') r') (ha : PE X a ta) (hb : PE X b tb) (hc : PE X c tc)
    (hm : lastMarks [op, op'] [b, c] = false := by with_unfolding_all rfl) : PT X (.Compare a [op, op'] [b, c] pos) (tTest (tChain r r' ta tb tc)) := by
  intro pins s σ H Q I h
  refine isTrue_chain (thn (ha pins s σ H _ I h) fun v s1 ⟨x, H1, I1, r1, q1⟩ => test_link (thn (hb pins s1 σ H1 _ I1 q1) fun u s2 ⟨y, H2, I2, r2, q2⟩ =>
    thn (ho pins s2 σ H2 x y v u _ I2 r1 r2 q2) fun d s3 ⟨z, H3, I3, r3, k, e, q3⟩ => ?_)) hm
  subst e
  cases r3
  refine wpAny_truthy_bool ?_
  cases k with
  | false =>
    obtain ⟨k', e', q'⟩ := q3
    cases e'
    exact ite_ff ⟨H3, I3, q'⟩
  | true =>
    refine ite_tt (test_last (thn (hc pins s3 σ H3 _ I3 q3) fun w' s4 ⟨z', H4, I4, r4, q4⟩ => thn (ho' pins s4 σ H4 y z' u w' _ I4 r2 r4 q4) fun d' s5 ⟨z2, H5, I5, r5, k2, e2, q5⟩ => ?_))
    subst e2
    cases r5
    exact wpAny_truthy_bool ⟨H5, I5, q5⟩

/-! ### truth -/
/-- a value's truth by the abstract heap -/
noncomputable def TruV (K : PySem.W.Frag) (x : V) (H : Hp) (k : Bool) : Prop :=
  match x with
  | .non => k = false
  | .bl b => k = b
  | .int i => k = (i != 0)
  | .str y => y.length ≤ sizeLine ∧ k = ((y.length : Int) != 0)
  | .byt y => y.size ≤ sizeLine ∧ k = ((y.size : Int) != 0)
  | .ref p => (∃ xs, SqL K H p xs ∧ k = !xs.isEmpty) ∨ (∃ xs, SqT K H p xs ∧ k = !xs.isEmpty) ∨ ∃ kvs, H p = some (.dK kvs) ∧ k = !kvs.isEmpty
  | _ => False
theorem isEmpty_kv {κ : Type} {kvs : List (κ × V)} {vs : List (κ × Value)} (r : KV kvs vs) : (!vs.isEmpty) = !kvs.isEmpty := by
  cases r <;> rfl
theorem isEmpty_of {xs : List V} {its : List Value} (r : Vals xs its) : (!its.toArray.isEmpty) = !xs.isEmpty := by
  cases r <;> simp
theorem line63 : (sizeLine : Nat) < 2 ^ 63 := by rw [sizeLine_eq]; decide
theorem tru_ok : TruR X (fun x H Q => ∃ k, TruV X.K x H k ∧ Q k H) := by
  intro pins s σ H x v Q I rx h
  obtain ⟨k, e, q⟩ := h
  have hl := line63
  have hs : sizeLine = 16777216 := sizeLine_eq
  cases x with
  | non =>
    cases rx
    have e' : k = false := e
    subst e'
    exact truthy_none ⟨H, I, q⟩
  | bl b =>
    cases rx
    have e' : k = b := e
    subst e'
    exact wpAny_truthy_bool ⟨H, I, q⟩
  | int i =>
    obtain ⟨t, rfl⟩ := rx
    have e' : k = (i != 0) := e
    subst e'
    exact PySem.P.truthy_int ⟨H, I, q⟩
  | str y =>
    obtain ⟨t, rfl⟩ := rx
    obtain ⟨hy, e'⟩ : y.length ≤ sizeLine ∧ k = ((y.length : Int) != 0) := e
    subst e'
    exact PySem.P.truthy_str (by omega) ⟨H, I.tok _, q⟩
  | byt y =>
    obtain ⟨t, rfl⟩ := rx
    obtain ⟨hy, e'⟩ : y.size ≤ sizeLine ∧ k = ((y.size : Int) != 0) := e
    subst e'
    exact PySem.W.truthy_bytes (by omega) ⟨H, I.tok _, q⟩
  | ref p =>
    cases rx
    have e' : (∃ xs, SqL X.K H p xs ∧ k = !xs.isEmpty) ∨ (∃ xs, SqT X.K H p xs ∧ k = !xs.isEmpty) ∨ ∃ kvs, H p = some (.dK kvs) ∧ k = !kvs.isEmpty := e
    rcases e' with ⟨xs, hx, e'⟩ | ⟨xs, hx, e'⟩ | ⟨kvs, hx, e'⟩
    · subst e'
      obtain ⟨its, r, pl, hz⟩ := I.list hx
      have hlen := r.length
      exact wpAny_truthy_list pl.isList (by simp only [List.size_toArray]; omega) ⟨H, I.tok _, by rw [isEmpty_of r]; exact q⟩
    · subst e'
      obtain ⟨its, r, pl, hz⟩ := I.tuple hx
      have hlen := r.length
      exact truthy_tuple pl (by simp only [List.size_toArray]; omega) ⟨H, I.tok _, by rw [isEmpty_of r]; exact q⟩
    · subst e'
      obtain ⟨hz, hS, vs, r, m⟩ : kvs.length ≤ sizeLine ∧ (p == sysModules) = false ∧ ∃ vs, KV kvs vs ∧ s.heap.DictOf (mixKind X.prog X.w) p vs := I.hok p _ hx
      have hlen : kvs.length = vs.length := Paired.length r
      exact wpAny_truthy_dict hS m (by omega) ⟨H, I.tok _, by rw [isEmpty_kv r]; exact q⟩
  | _ => exact (show False from e).elim
/-- any expression whose test is its value's truth (a name, a call, a subscript, a field ..: he by fun _ => rfl) -/
theorem pt_truth (ha : PE X a ta) (he : ∀ whole, isTrue a X.env whole = (do let v ← whole; standAt a.pos; holding [v] (truthy v))) :
    PT X a (fun σ H Q => ta σ H fun x H' => ∃ k, TruV X.K x H' k ∧ Q k H') := by
  intro pins s σ H Q I h
  exact isTrue_plain (thn (ha pins s σ H _ I h) fun v s1 ⟨x, H1, I1, r1, q1⟩ => tru_ok pins s1 σ H1 x v Q I1 r1 q1) (he _)

/-! ### strs and bytes -/


/-! ### scalar builtins, by CallR -/
theorem vals1 {x : V} {us : List Value} (r : Vals [x] us) : ∃ u, us = [u] ∧ RelV x u := by
  cases r with
  | cons r1 r2 => cases r2; exact ⟨_, rfl, r1⟩
theorem vals2 {x y : V} {us : List Value} (r : Vals [x, y] us) : ∃ u w', us = [u, w'] ∧ RelV x u ∧ RelV y w' := by
  cases r with
  | cons r1 r2 =>
    cases r2 with
    | cons r3 r4 => cases r4; exact ⟨_, _, rfl, r1, r3⟩
theorem call_int1 : CallR X (.type "int") (fun xs H Q => (∃ i, xs = [.int i] ∧ Q (.int i) H) ∨ ∃ k, xs = [.bl k] ∧ Q (.int (if k then 1 else 0)) H) := by
  intro pins s σ H xs us Q I r h
  rcases h with ⟨i, rfl, q⟩ | ⟨k, rfl, q⟩
  · obtain ⟨u, rfl, t, rfl⟩ := vals1 r
    exact call_int_int ⟨.int i, H, I, ⟨_, rfl⟩, q⟩
  · obtain ⟨u, rfl, r1⟩ := vals1 r
    cases r1
    exact call_int_bool ⟨.int (if k then 1 else 0), H, I.tok _, ⟨_, rfl⟩, q⟩
end
end L2

namespace L2
open PySem PySem.Spec PyProof.Rows

/-! ### an instance, its attributes a map -/
structure ObjM (h : Heap) (x dx C : Addr) (mA : Str → Option Value) : Prop where
  obj : h.get? x = some (PySem.W.instObj C dx)
  ns : h.Ns1 dx mA
  ne : dx ≠ x

theorem lookIn_ns {h : Heap} {dx : Addr} {mA : Str → Option Value} (n : h.Ns1 dx mA) : ∃ od, h.get? dx = some od ∧ ∀ name, PySem.W.lookIn name od = some (mA name) := by
  obtain ⟨o, es, ep, ho, hd, hk, _, hm⟩ := n
  refine ⟨o, ho, fun name => ?_⟩
  have e := hm name
  unfold nsFind findBy at e
  rw [← Array.find?_toList] at e
  unfold PySem.W.lookIn
  rw [hd]
  dsimp only
  split
  · rename_i y q
    rw [q] at e
    exact congrArg some e
  · rename_i q
    rw [q] at e
    have a : es.toList.any (·.refKey) = false := by
      rw [List.any_eq_false]
      intro y hy
      obtain ⟨z, t, hkey⟩ := hk y (Array.mem_toList_iff.mp hy)
      simp [DictEntry.refKey, hkey]
    have a' : ¬ es.toList.any (·.refKey) = true := by rw [a]; exact Bool.false_ne_true
    rw [if_neg a']
    exact congrArg some e

theorem ObjM.look {h : Heap} {x dx C : Addr} {mA : Str → Option Value} (I : ObjM h x dx C mA) : ∃ od, PySem.W.InstAt h x (PySem.W.instObj C dx) C (some od) ∧ ∀ name, PySem.W.lookIn name od = some (mA name) :=
  let ⟨od, ho, hl⟩ := lookIn_ns I.ns
  ⟨od, ⟨I.obj, rfl, rfl, ho⟩, hl⟩

section
variable {prog : Program} {w : World} {A : Around} {E : Value → Shared → Prop} {s : Shared} {K : PySem.W.Frag} {x dx C f : Addr} {mA : Str → Option Value} {name : Str} {v : Value}





end

/-! ### the attributes as a list of pairs -/


section
variable {P : Program} {w : World} {H H' : Hp} {h h' : Heap} {a C dx : Addr} {fs fs' : List (Str × V)}
theorem ins_get (hok : HOk P w H h) (e : H a = some (.ins C dx fs)) : ∃ mA, ObjM h a dx C mA ∧ (∀ f, RelO (fs.lookup f) (mA f)) ∧ PySem.Within mA (fs.map (·.1)) ∧ fs.length ≤ 1000 ∧ H dx = some (.own a) := by
  obtain ⟨d, z, ne, ob, mA, n, r, q⟩ := (show ObjOk P w H h a (.ins C dx fs) from hok a _ e)
  exact ⟨mA, ⟨ob, n, ne⟩, r, q, z, d⟩
end

/-! ### what of the text a class must have -/
structure Cls (K : PySem.W.Frag) (C : Addr) : Prop where
  pg : PySem.W.plainGet K C Str.empty = true
  hd : PySem.W.hasDictIn K C = true
  po : PySem.W.plainOver K C = true
  sa : PySem.W.findIn K (.ref C) "__setattr__" = some (some (.builtin "object.__setattr__"))
theorem Cls.get {K : PySem.W.Frag} {C : Addr} (c : Cls K C) (f : Str) : PySem.W.plainGet K C f = true := c.pg

section
variable {X : Cx} {pins : List (Addr × Obj)} {σ : St} {H : Hp} {s : Shared} {a C dx : Addr} {fs : List (Str × V)} {f : Str} {v : V} {A : Around} {E : Value → Shared → Prop}






end

/-! ### readings and rules -/

section
variable {X : Cx} {o e value : Expr} {f : Str} {pos pos' tpos : Pos} {ta tv : TE}

end

/-! ### isinstance -/
section
variable {X : Cx} {pins : List (Addr × Obj)} {σ : St} {H : Hp} {s : Shared} {A : Around} {E : Value → Shared → Prop} {Q : Value → Shared → Prop} {c : Value} {b : Bool}
/-- the type of a value, as the fragment's deciders take it; for an instance its class -/
inductive TyOf (K : PySem.W.Frag) (H : Hp) : V → Value → Prop where
  | non : TyOf K H .non (.type "NoneType")
  | bl (x : Bool) : TyOf K H (.bl x) (.type "bool")
  | int (i : Int) : TyOf K H (.int i) (.type "int")
  | str (x : Str) : TyOf K H (.str x) (.type "str")
  | flt (x : UInt64) : TyOf K H (.flt x) (.type "float")
  | lst {a : Addr} {xs : List V} (e : H a = some (.lst xs)) : TyOf K H (.ref a) (.type "list")
  | frz {a : Addr} {o : Obj} {xs : List V} (e : H a = some (.frz o (.lst xs))) : TyOf K H (.ref a) (.type "list")
  | tup {a : Addr} {xs : List V} (e : H a = some (.tup xs)) : TyOf K H (.ref a) (.type "tuple")
  | dK {a : Addr} {kvs : List (Key × V)} (e : H a = some (.dK kvs)) : TyOf K H (.ref a) (.type "dict")
  | dT {a : Addr} {kvs : List (List Key × V)} (e : H a = some (.dT kvs)) : TyOf K H (.ref a) (.type "dict")
  | ins {a C dx : Addr} {fs : List (Str × V)} (e : H a = some (.ins C dx fs)) (cl : Cls K C) (ha : PySem.W.findIn K (.ref C) "__class__" = some (some (.builtin "object.__class__")))
      (hn : PySem.W.specialIn K (.builtin "object.__class__") "__get__" = some (some (.builtin "getset_descriptor.__get__"))) (htk : PySem.W.takesIn K (.builtin "object.__class__") = some true)
      (hm : PySem.W.mroIn K C (.type "object") = some true) : TyOf K H (.ref a) (.ref C)
/-- isinstance(x, c) for one class c, a built-in or an own one: kitOne's answer -/
theorem isinst_ok {x : V} {u t : Value} (I : Inv X pins σ H s) (rx : RelV x u) (ty : TyOf X.K H x t) (e : PySem.W.kitOne X.K t c = some b) (h : ∀ tk, Q (.bool b) { s with toks := tk }) :
    wpAny (model X.prog X.w) A (call (.builtin "isinstance") [u, c]) Q E s := by
  cases ty with
  | non => cases (show u = Value.none from rx); exact PySem.W.kia_one PySem.W.kitx_none I.kIn True.intro e (fun z => nomatch z) h
  | bl y => cases (show u = Value.bool y from rx); exact PySem.W.kia_one PySem.W.kitx_bool I.kIn True.intro e (fun z => nomatch z) h
  | int i => obtain ⟨t, q⟩ := (show ∃ t, u = Value.int i t from rx); cases q; exact PySem.W.kia_one PySem.W.kitx_int I.kIn True.intro e (fun z => nomatch z) h
  | str y => obtain ⟨t, q⟩ := (show ∃ t, u = Value.str y t from rx); cases q; exact PySem.W.kia_one PySem.W.kitx_str I.kIn True.intro e (fun z => nomatch z) h
  | flt y => obtain ⟨t, q⟩ := (show ∃ t, u = Value.float y t from rx); cases q; exact PySem.W.kia_one PySem.W.kitx_float I.kIn True.intro e (fun z => nomatch z) h
  | @lst a xs ea =>
    cases (show u = Value.ref a from rx)
    obtain ⟨_, _, n, _, h1⟩ := (show ObjOk X.prog X.w H s.heap a (.lst xs) from I.hok a _ ea)
    exact PySem.W.kia_one PySem.W.kitx_list I.kIn ⟨_, h1, rfl⟩ e (fun z => nomatch z) h
  | @frz a ob xs ea =>
    cases (show u = Value.ref a from rx)
    obtain ⟨_, _, _, n, _, h1⟩ := (show ObjOk X.prog X.w H s.heap a (.frz ob (.lst xs)) from I.hok a _ ea)
    exact PySem.W.kia_one PySem.W.kitx_list I.kIn ⟨_, h1, rfl⟩ e (fun z => nomatch z) h
  | @tup a xs ea =>
    cases (show u = Value.ref a from rx)
    obtain ⟨_, _, _, p⟩ := (show ObjOk X.prog X.w H s.heap a (.tup xs) from I.hok a _ ea)
    obtain ⟨o, h1, h2, _⟩ := p
    exact PySem.W.kia_one PySem.W.kitx_tuple I.kIn ⟨o, h1, h2⟩ e (fun z => nomatch z) h
  | @dK a kvs ea =>
    cases (show u = Value.ref a from rx)
    obtain ⟨_, _, vs, _, p⟩ := (show ObjOk X.prog X.w H s.heap a (.dK kvs) from I.hok a _ ea)
    obtain ⟨o, es, ep, h1, h2, _⟩ := p
    exact PySem.W.kia_one PySem.W.kitx_dict I.kIn ⟨o, h1, h2.1⟩ e (fun z => nomatch z) h
  | @dT a kvs ea =>
    cases (show u = Value.ref a from rx)
    obtain ⟨_, _, xs, _, o, es, ep, h1, h2, _⟩ := (show ObjOk X.prog X.w H s.heap a (.dT kvs) from I.hok a _ ea)
    exact PySem.W.kia_one PySem.W.kitx_dict I.kIn ⟨o, h1, h2.1⟩ e (fun z => nomatch z) h
  | @ins a C dx fs ea cl ha hn htk hm =>
    cases (show u = Value.ref a from rx)
    obtain ⟨mA, O, _⟩ := ins_get I.hok ea
    obtain ⟨od, J, _⟩ := O.look
    exact PySem.W.kia_one (PySem.W.kitx_own (cl.get _) cl.hd ha hn htk hm) I.kIn J e (fun z => nomatch z) h
end
end L2

namespace L2
open PySem PySem.Spec PyProof.Rows

/-! ### room -/
structure Room (k : Nat) (A : Around) : Prop where
  hd : A.handled = none
  dp : A.depth + 3 * k + 5 < recursionLimit
  un : A.units + 16 * k + 200 < cLine
theorem Room.mono {j k : Nat} {A : Around} (r : Room k A) (h : j ≤ k) : Room j A := ⟨r.hd, by have := r.dp; omega, by have := r.un; omega⟩
theorem Room.deeper {k : Nat} {A : Around} (r : Room (k + 1) A) (env : Env) : Room k (A.deeper env) :=
  ⟨r.hd, by have := r.dp; show A.depth + 1 + 3 * k + 5 < _; omega, by have := r.un; show A.units + 3 + 16 * k + 200 < _; omega⟩
theorem Room.depth {k : Nat} {A : Around} (r : Room k A) : A.depth < recursionLimit := by have := r.dp; omega
theorem Room.units {k : Nat} {A : Around} (r : Room k A) : A.units + 64 < cLine := by have := r.un; omega

/-! ### argument lists and displays -/
noncomputable def tNil : TA := fun _ H Q => Q [] H
noncomputable def tCons (ta : TE) (tr : TA) : TA := fun σ H Q => ta σ H fun x H1 => tr σ H1 fun xs H2 => Q (x :: xs) H2
section
variable {X : Cx} {e : Expr} {es : List Expr} {te : TE} {t : TA} {pos : Pos}
theorem pa_nil : PA X [] tNil := fun _ _ _ _ H Q I h => Calls.spliced_nil ⟨[], H, I, .nil, h⟩
theorem pa_cons (ha : PE X e te) (hr : PA X es t) (hs : starEach (e :: es) X.env = (false, eval e X.env) :: starEach es X.env := by rfl) : PA X (e :: es) (tCons te t) := by
  intro pos pins s σ H Q I h
  rw [hs]
  show wpAny _ _ (spliced ((false, eval e X.env) :: backTo pos (starEach es X.env))) _ _ s
  refine Calls.spliced_cons (thn (ha pins s σ H _ I h) fun u s1 ⟨x, H1, I1, r1, q1⟩ => ?_)
  exact thn (hr pos pins s1 σ H1 _ I1 q1) fun us s2 ⟨xs, H2, I2, r2, q2⟩ => ⟨x :: xs, H2, I2, .cons r1 r2, q2⟩

/-- a tuple, a list of written items -/
noncomputable def tTup (t : TA) : TE := fun σ H Q => t σ H fun xs H1 => xs.length ≤ sizeLine ∧ ∀ p, H1 p = none → Q (.ref p) (upd H1 p (.tup xs))
noncomputable def tLst (t : TA) : TE := fun σ H Q => t σ H fun xs H1 => xs.length ≤ sizeLine ∧ ∀ p, H1 p = none → Q (.ref p) (upd H1 p (.lst xs))
theorem pe_tup {x1} (h : PA X es t) : PE X (.Tuple es x1 pos) (tTup t) := by
  intro pins s σ H Q I hq
  refine wpAny_Tuple_spliced (thn (h pos pins s σ H _ I hq) fun us s1 ⟨xs, H1, I1, r, z, q⟩ => ⟨by rw [← r.length]; exact z, ?_⟩)
  have hf : H1 s1.heap.objs.size = none := I1.hok.fresh (Nat.le_refl _)
  refine ⟨.ref s1.heap.objs.size, upd H1 s1.heap.objs.size (.tup xs), I1.laid (t' := s1.toks) (fun b u e => Heap.get?_push_of_some _ e) (Nat.le_refl _) ?_, rfl, q _ hf⟩
  exact ⟨z, us, r, ⟨_, Heap.get?_push_size _ rfl, rfl, _, rfl⟩⟩
theorem pe_lst (h : PA X es t) : PE X (.List es pos) (tLst t) := by
  intro pins s σ H Q I hq
  refine wpAny_List_spliced (thn (h pos pins s σ H _ I hq) fun us s1 ⟨xs, H1, I1, r, z, q⟩ => ⟨by rw [← r.length]; exact z, ?_⟩)
  have hf : H1 s1.heap.objs.size = none := I1.hok.fresh (Nat.le_refl _)
  refine ⟨.ref s1.heap.objs.size, upd H1 s1.heap.objs.size (.lst xs), I1.laid (t' := s1.toks) (fun b u e => Heap.get?_push_of_some _ e) (Nat.le_refl _) ?_, rfl, q _ hf⟩
  exact ⟨z, us, 0, r, Heap.get?_push_size _ rfl⟩
end

/-! ### what a def promises -/
/-- a def's promise: the bound arguments in the parameters' order, the heap, the wanted end, the wanted exception -/
noncomputable abbrev Sp := List V → Hp → VK → XK → Prop
/-- how an exception lies behind a call (file 08 gives it): the callers' frames, abstract heap and state ahead of the call, the wish, the exception, the state -/
noncomputable abbrev CXT := List Env → Hp → Shared → XK → Value → Shared → Prop

/-- the state at a call -/
structure Env0 (P : Program) (w : World) (K : PySem.W.Frag) (mg : Str → Option Value) (base : Heap) (A : Around) (outer : List Env) (s : Shared) (H : Hp) : Prop where
  frames : A.frames = some outer
  mod : Mod K mg base
  bs : ∀ b o, base.get? b = some o → s.heap.get? b = some o ∧ H b = none
  bsz : base.objs.size ≤ s.heap.objs.size
  funs : s.heap.FunFrames base outer
  frf : ∀ b ∈ frs outer, H b = none
  hok : HOk P w H s.heap
  bare : AllBare s.gens
/-- a call's end -/
noncomputable def CE (outer : List Env) (P : Program) (w : World) (H : Hp) (s : Shared) (Q : VK) (u : Value) (s' : Shared) : Prop :=
  ∃ v H', s'.os = s.os ∧ AllBare s'.gens ∧ Un (frs outer) [] H H' s.heap s'.heap ∧ HOk P w H' s'.heap ∧ RelV v u ∧ Q v H'
noncomputable def CR (CX : CXT) (outer : List Env) (P : Program) (w : World) (H : Hp) (s : Shared) (Q : VK) (E : XK) (r : Result) (s' : Shared) : Prop :=
  match r with
  | .ok (.ret u) => CE outer P w H s Q u s'
  | .ok _ => False
  | .error e => CX outer H s E e s'
structure FnOk (P : Program) (w : World) (K : PySem.W.Frag) (mg : Str → Option Value) (base : Heap) (CX : CXT) (k : Nat) (f : Addr) (fd : FuncData) (ps : List Str) (sp : Sp) : Prop where
  len : ∀ vs H Q E, sp vs H Q E → vs.length = ps.length
  run : ∀ (A : Around) (outer : List Env) (s : Shared) (H : Hp) (args : Args) (us : List Value) (vs : List V) (Q : VK) (E : XK), Room k A → Env0 P w K mg base A outer s H → BindsTo s fd args (ps.zip us) → Vals vs us → sp vs H Q E →
    codeAny (model P w) A (.call (.ref f) args) (CR CX outer P w H s Q E) s
theorem FnOk.mono {P : Program} {w : World} {K : PySem.W.Frag} {mg : Str → Option Value} {base : Heap} {CX : CXT} {j k : Nat} {f : Addr} {fd : FuncData} {ps : List Str} {sp : Sp} (F : FnOk P w K mg base CX j f fd ps sp) (h : j ≤ k) :
    FnOk P w K mg base CX k f fd ps sp := ⟨F.len, fun A outer s H args us vs Q E hr => F.run A outer s H args us vs Q E (hr.mono h)⟩


section
variable {X : Cx} {pins : List (Addr × Obj)} {σ : St} {H : Hp} {s s' : Shared}
/-- from a body: what a callee wants -/
theorem Inv.env0 (I : Inv X pins σ H s) : Env0 X.prog X.w X.K X.mg X.base X.A X.stack s H :=
  ⟨I.ok.frames, I.ok.mod, I.bs, Nat.le_trans I.ok.bsz I.sz, I.stack, I.stkFree, I.hok, I.bare⟩
/-- behind a call -/
theorem Inv.after {Q : VK} {u : Value} (I : Inv X pins σ H s) (h : CE X.stack X.prog X.w H s Q u s') : EP X pins σ Q u s' := by
  obtain ⟨v, H', os, bare, un, hok, r, q⟩ := h
  obtain ⟨hh, g, d, t, os'⟩ := s'
  obtain rfl : os' = s.os := os
  exact ⟨v, H', I.call (h' := hh) (g' := g) (d' := d) (t' := t) (ch := []) un hok bare (fun b z => absurd z (by simp)), r, q⟩
end

/-! ### calls -/
/-- f(..): the written arguments, then the defaults dvs; E: what is wanted of an exception -/
noncomputable def tCall (sp : Sp) (dvs : List V) (E : XK) (t : TA) : TE := fun σ H Q => t σ H fun vs H1 => sp (vs ++ dvs) H1 Q E

/-- how the parameters are bound: us the positional arguments, kw the keywords' values by name, ds the defaults that fill up -/
noncomputable def Binds (K : PySem.W.Frag) (fd : FuncData) (ps : List Str) (ds : List Value) : Prop :=
  ∀ (s : Shared) (us : List Value), K.In s.heap → (us ++ ds).length = ps.length → BindsTo s fd ⟨us, []⟩ (ps.zip (us ++ ds))
/-- every parameter is given -/
theorem Binds.all {K : PySem.W.Frag} {fd : FuncData} {ps : List Str} (h : ∀ us : List Value, us.length = ps.length → bindArgs fd ⟨us, []⟩ = pure (ps.zip us)) : Binds K fd ps [] := fun s us _ hl => by
  rw [List.append_nil] at hl ⊢
  exact .of_eq (h us hl)

/-- an exception of a callee reaches what this body wants of exceptions -/
noncomputable def Passes (CX : CXT) (X : Cx) (E : XK) : Prop := ∀ (pins : List (Addr × Obj)) (σ : St) (H : Hp) (s : Shared) (e : Value) (s' : Shared), Inv X pins σ H s → CX X.stack H s E e s' → X.xe e s'

section
variable {X : Cx} {CX : CXT} {k : Nat} {f C : Addr} {fd : FuncData} {ps : List Str} {sp : Sp} {dvs : List V} {ds : List Value} {E : XK} {x m : Str} {p pos apos : Pos} {e o : Expr} {es : List Expr} {ta : TE} {t : TA}

/-- the callee runs -/
theorem run_fn {pins : List (Addr × Obj)} {σ : St} {H : Hp} {s : Shared} {Q : VK} {us : List Value} {vs : List V} (F : FnOk X.prog X.w X.K X.mg X.base CX k f fd ps sp) (hr : Room k X.A) (hb : Binds X.K fd ps ds) (hd : Vals dvs ds) (hx : Passes CX X E)
    (I : Inv X pins σ H s) (r : Vals vs us) (h : sp (vs ++ dvs) H Q E) : wpAny (model X.prog X.w) X.A (call (.ref f) us) (EP X pins σ Q) X.xe s := by
  have r2 : Vals (vs ++ dvs) (us ++ ds) := r.append hd
  have hl : (us ++ ds).length = ps.length := by rw [← r2.length]; exact F.len _ _ _ _ h
  refine wpAny_call (codeAny_mono (F.run X.A X.stack s H ⟨us, []⟩ (us ++ ds) (vs ++ dvs) Q E hr I.env0 (hb s us I.kIn hl) r2 h) fun r s' hq => ?_)
  cases r with
  | error e => exact hx pins σ H s e s' I hq
  | ok fl =>
    cases fl with
    | ret u => exact I.after hq
    | next => exact False.elim hq
    | brk => exact False.elim hq
    | cont => exact False.elim hq

theorem pe_call (F : FnOk X.prog X.w X.K X.mg X.base CX k f fd ps sp) (hr : Room k X.A) (hg : Gl X x) (hm : X.mg x = some (.ref f)) (hk : PySem.W.keepIn X.K (.ref f) = true) (hb : Binds X.K fd ps ds) (hd : Vals dvs ds) (hx : Passes CX X E)
    (ha : PA X (e :: es) t) (hdb : (x == ("__debug__" : Str)) = false := by decide) (he : starEach (e :: es) X.env = (false, eval e X.env) :: starEach es X.env := by rfl) (hpl : (backTo pos (starEach es X.env)).any (·.1) = false := by rfl) :
    PE X (.Call (.Name x p) (e :: es) [] pos) (tCall sp dvs E t) := by
  intro pins s σ H Q I h
  refine wpAny_Call_Name_kw (ld_glob I hg hm ?_ hdb)
  refine PySem.W.callWith_K (h₀ := X.base) I.ok.mod.kin hk (thn (ha pos pins s σ H _ I h) fun us s1 ⟨vs, H1, I1, r, q⟩ => ⟨I1.kIn, ?_⟩) he hpl
  exact run_fn F hr hb hd hx I1 r q



end

/-! ### keywords -/
section
variable {X : Cx} {CX : CXT} {k : Nat} {f C : Addr} {fd : FuncData} {ps ks : List Str} {sp : Sp} {E : XK} {x m : Str} {p pos apos kpos : Pos} {e o : Expr} {es : List Expr} {kws : List Keyword} {te ta : TE} {t tk : TA} {nm : Option Str}

variable {g : List Value → List Value → List Value} {gV : List V → List V → List V}
end

/-! ### a def's body keeps its promise -/
/-- names: the parameters first -/
structure FnScope (N P : List Str) (sc : Scope) : Prop where
  kind : sc.kind = .function
  co : sc.isCoroutine = false
  gen : sc.isGenerator = false
  nd : N.Nodup
  pre : N.take P.length = P
  par : ∀ x ∈ P, sc.names.lookup x = some .local ∨ sc.names.lookup x = some .cell
  nofree : ∀ y ∈ sc.names, y.2 ≠ .free

theorem bindL_out {kindOf : Str → Option NameKind} {x : Str} : ∀ {binds : List (Str × Value)} {m : Str → Option Value}, (∀ v, (x, v) ∉ binds) → bindL kindOf binds m x = m x
  | [], _, _ => rfl
  | (n, v) :: r, m, h => by
    unfold bindL
    rw [bindL_out fun w hw => h w (List.mem_cons_of_mem _ hw)]
    split
    · have : x ≠ n := by rintro rfl; exact h v List.mem_cons_self
      simp [this]
    · rfl
theorem bindC_out {kindOf : Str → Option NameKind} {x : Str} : ∀ {binds : List (Str × Value)} {m : Str → Option Value}, (∀ v, (x, v) ∉ binds) → bindC kindOf binds m x = m x
  | [], _, _ => rfl
  | (n, v) :: r, m, h => by
    unfold bindC
    rw [bindC_out fun w hw => h w (List.mem_cons_of_mem _ hw)]
    split
    · rfl
    · have : x ≠ n := by rintro rfl; exact h v List.mem_cons_self
      simp [this]
theorem bindL_get {kindOf : Str → Option NameKind} {x : Str} {v : Value} : ∀ {P : List Str} {vs : List Value} {i : Nat} {m : Str → Option Value}, P.Nodup → P[i]? = some x → vs[i]? = some v → kindOf x = some .local →
    bindL kindOf (P.zip vs) m x = some v
  | [], _, _, _, _, h, _, _ => by simp at h
  | _ :: _, [], _, _, _, _, h, _ => by simp at h
  | p :: P, w :: vs, 0, m, nd, h1, h2, hk => by
    simp at h1 h2; subst h1; subst h2
    show bindL kindOf ((p, w) :: P.zip vs) m p = _
    unfold bindL
    rw [bindL_out fun v hv => (List.nodup_cons.mp nd).1 (List.of_mem_zip hv).1, if_pos hk]
    simp
  | p :: P, w :: vs, i + 1, m, nd, h1, h2, hk => by
    show bindL kindOf ((p, w) :: P.zip vs) m x = _
    unfold bindL
    exact bindL_get (i := i) (List.nodup_cons.mp nd).2 (by simpa using h1) (by simpa using h2) hk
theorem bindC_get {kindOf : Str → Option NameKind} {x : Str} {v : Value} : ∀ {P : List Str} {vs : List Value} {i : Nat} {m : Str → Option Value}, P.Nodup → P[i]? = some x → vs[i]? = some v → kindOf x ≠ some .local →
    bindC kindOf (P.zip vs) m x = some v
  | [], _, _, _, _, h, _, _ => by simp at h
  | _ :: _, [], _, _, _, _, h, _ => by simp at h
  | p :: P, w :: vs, 0, m, nd, h1, h2, hk => by
    simp at h1 h2; subst h1; subst h2
    show bindC kindOf ((p, w) :: P.zip vs) m p = _
    unfold bindC
    rw [bindC_out fun v hv => (List.nodup_cons.mp nd).1 (List.of_mem_zip hv).1, if_neg hk]
    simp
  | p :: P, w :: vs, i + 1, m, nd, h1, h2, hk => by
    show bindC kindOf ((p, w) :: P.zip vs) m x = _
    unfold bindC
    exact bindC_get (i := i) (List.nodup_cons.mp nd).2 (by simpa using h1) (by simpa using h2) hk

/-- the names' values at the entry -/
noncomputable def start (N : List Str) (vs : List V) : St := vs.map some ++ List.replicate (N.length - vs.length) none

/-- the context of a def's body, at its entry; an exception leaves the frame, then lies as CX says -/
noncomputable def cxOf (CX : CXT) (P : Program) (w : World) (K : PySem.W.Frag) (mg : Str → Option Value) (base : Heap) (N : List Str) (qual : Str) (scope : Scope) (f : Addr) (cd : Value) (A : Around) (outer : List Env) (s : Shared) (H : Hp) (E : XK) : Cx where
  prog := P
  w := w
  K := K
  mg := mg
  base := base
  A := A.deeper (envOfC qual scope s.heap.objs.size f cd)
  N := N
  s₀ := s
  H₀ := H
  env := envOfC qual scope s.heap.objs.size f cd
  outer := outer
  stack := envOfC qual scope s.heap.objs.size f cd :: outer
  ex := []
  calm := true
  fn := fun _ => true
  pn := []
  xe := fun e s' => wpAny (model P w) (A.deeper (envOfC qual scope s.heap.objs.size f cd)) (leaving (envOfC qual scope s.heap.objs.size f cd) e) (fun _ s'' => CX outer H s E e s'') (fun e' s'' => CX outer H s E e' s'') s'

theorem cell_has {sc : Scope} {n : Nat} {x : Str} (h : sc.names.lookup x = some .cell) : ∃ c, (cellsFrom n sc.names []).lookup x = some c := by
  have q := PySem.W.cellsFrom_some sc.names n [] (.inl h)
  exact Option.isSome_iff_exists.mp q

theorem inv_start {CX : CXT} {P : Program} {w : World} {K : PySem.W.Frag} {mg : Str → Option Value} {base : Heap} {N ps : List Str} {qual : Str} {scope : Scope} {f : Addr} {cd : Value} {A : Around} {outer : List Env} {s s1 : Shared} {H : Hp} {E : XK} {us : List Value} {vs : List V}
    (S : FnScope N ps scope) (hd : A.handled = none) (e0 : Env0 P w K mg base A outer s H) (hl : vs.length = ps.length) (r : Vals vs us)
    (x : InCallC s s.heap.objs.size (bindL (envOfC qual scope s.heap.objs.size f cd).kindOf (ps.zip us) fun _ => none) (cellsFrom (s.heap.objs.size + 1) scope.names []) (bindC (envOfC qual scope s.heap.objs.size f cd).kindOf (ps.zip us) fun _ => none) s1) :
    Inv (cxOf CX P w K mg base N qual scope f cd A outer s H E) [] (start N vs) H s1 := by
  have hpl : ps.length ≤ N.length := by have := congrArg List.length S.pre; rw [List.length_take] at this; omega
  obtain ⟨h1, tk, rfl, hk⟩ := x.done
  have noA : ∀ b : Addr, b ∉ (cxOf CX P w K mg base N qual scope f cd A outer s H E).ex := fun b z => absurd (show b ∈ ([] : List Addr) from z) (by simp)
  refine ⟨⟨e0.mod, S.kind, rfl, rfl, Nat.le_refl _, fun y z c h1 h2 => ?_, fun y hy => ?_, fun y c _ h => ?_, fun _ => hd, Around.frames_deeper e0.frames, .inr ⟨rfl, rfl⟩, fun b z => absurd z (noA b), e0.bs, e0.bsz, fun b _ _ => noA b, fun b z => absurd z (noA b), e0.funs, e0.frf⟩,
    rfl, e0.bare, Un.kept hk, ⟨_, x.toInCall.ns, fun i y v h1 h2 h3 => ?_⟩, fun y c h => ⟨_, x.cell y c h⟩, e0.hok.fresh (Nat.le_refl _), fun y c h => ?_, fun p hp => absurd (show p ∈ ([] : List (Addr × Obj)) from hp) (by simp), e0.hok.kept hk, ?_⟩
  · exact name_of_addr x.apart (PySem.mem_of_lookup h1) (PySem.mem_of_lookup h2)
  · have hy : scope.names.lookup y = some .cell ∨ scope.names.lookup y = some .free := hy
    rcases hy with hy | hy
    · exact cell_has hy
    · exact absurd rfl (S.nofree _ (PySem.mem_of_lookup hy))
  · exact Nat.le_of_lt (x.above y c (PySem.mem_of_lookup h))
  · have hi : i < vs.length := by
      unfold start at h2
      by_cases hi : i < vs.length
      · exact hi
      · rw [List.getElem?_append_right (by simpa using hi)] at h2
        rw [List.getElem?_replicate] at h2
        split at h2 <;> cases h2
    have ha : vs[i]? = some v := by
      unfold start at h2
      rw [List.getElem?_append_left (by simpa using hi), List.getElem?_map] at h2
      cases e : vs[i]? with
      | none => rw [e] at h2; cases h2
      | some a => rw [e] at h2; cases h2; rfl
    obtain ⟨u, hu, rv⟩ := r.get ha
    have hp : ps[i]? = some y := by
      rw [← S.pre, List.getElem?_take_of_lt (by omega)]; exact h1
    have ndP : ps.Nodup := by rw [← S.pre]; exact S.nd.sublist (List.take_sublist _ _)
    refine ⟨u, rv, ?_⟩
    rcases S.par y (List.mem_of_getElem? hp) with k | k
    · exact .inl ⟨k, bindL_get ndP hp hu k⟩
    · obtain ⟨c, e⟩ := cell_has (n := s.heap.objs.size + 1) k
      refine .inr ⟨.inl k, c, e, ?_⟩
      have q := x.cell y c e
      rw [bindC_get ndP hp hu (by show scope.names.lookup y ≠ _; rw [k]; decide)] at q
      exact q
  · exact e0.hok.fresh (Nat.le_of_lt (x.above y c (PySem.mem_of_lookup h)))
  · unfold start
    show _ = N.length
    rw [List.length_append, List.length_map, List.length_replicate]
    omega

/-- THE RULE: a def (or a method) of the text, by its body. The body's reading t is chosen for each entry; it is run at the parameters' values -/
theorem fn_of {CX : CXT} {P : Program} {w : World} {K : PySem.W.Frag} {mg : Str → Option Value} {base : Heap} {k : Nat} {f : Addr} {name qual : Str} {params : Arguments} {body : List Stmt} {scope : Scope} {dV kV doc pm cdv ct oc : Value} {an od : Option Addr}
    {osl : Array (Option Value)} {N ps : List Str} {sp : Sp} (lk : K.lookup f = some ⟨oc, od, .func (PySem.W.fnOf name qual params body scope dV kV doc pm an cdv ct), osl⟩) (hcd : PySem.W.codeIn K cdv qual = true) (S : FnScope N ps scope)
    (len : ∀ vs H Q E, sp vs H Q E → vs.length = ps.length)
    (hbody : ∀ (A : Around) (outer : List Env) (s : Shared) (H : Hp) (vs : List V) (Q : VK) (E : XK), Room k (A.deeper (envOfC qual scope s.heap.objs.size f cdv)) → sp vs H Q E →
      ∃ t, PSs (cxOf CX P w K mg base N qual scope f cdv A outer s H E) body t ∧ t { nx := fun _ H' => Q .non H', rt := Q } (start N vs) H) :
    FnOk P w K mg base CX (k + 1) f (PySem.W.fnOf name qual params body scope dV kV doc pm an cdv ct) ps sp := by
  refine ⟨len, fun A outer s H args us vs Q E hr e0 hb r hsp => ?_⟩
  have hl := len _ _ _ _ hsp
  have KX : K.In s.heap := e0.mod.kin.keeps fun b o e => (e0.bs b o e).1
  have lim : s.heap.NoLimit := e0.mod.nolimit.keeps fun b o e => (e0.bs b o e).1
  have hkind : ∀ y ∈ ps.zip us, scope.names.lookup y.1 = some .local ∨ (scope.names.lookup y.1 = some .cell ∧ ((cellsFrom (s.heap.objs.size + 1) scope.names []).lookup y.1).isSome = true) := fun ⟨n, v⟩ hy => by
    rcases S.par n (List.of_mem_zip hy).1 with q | q
    · exact .inl q
    · exact .inr ⟨q, PySem.W.cellsFrom_some _ _ _ (.inl q)⟩
  refine codeAny_call_function hr.depth (KX _ _ lk) rfl S.co S.gen rfl (PySem.W.codeRec_of KX hcd) (hb _ _ _ _ ?_)
  refine wpAny_newFunctionEnv_cells S.kind hkind fun env he s1 x => ?_
  subst he
  refine ⟨lim.keeps x.toInCall.keep, codeAny_func ?_⟩
  obtain ⟨t, ht, hq⟩ := hbody A outer s H vs Q E (hr.deeper _) hsp
  have I : Inv (cxOf CX P w K mg base N qual scope f cdv A outer s H E) [] (start N vs) H s1 := inv_start S hr.hd e0 hl r x
  refine wpAny_mono (ht [] s1 (start N vs) H _ I hq) (fun fl s' hs => ?_) fun e s' hs => hs
  have fin : ∀ {σ' : St} {H' : Hp} {v : V} {u : Value}, Inv (cxOf CX P w K mg base N qual scope f cdv A outer s H E) [] σ' H' s' → RelV v u → Q v H' → CE outer P w H s Q u s' :=
    fun {σ' H' v u} J rv q => ⟨v, H', J.os, J.bare, J.base, J.hok, rv, q⟩
  cases fl with
  | ret u =>
    obtain ⟨v, σ', H', J, rv, q⟩ := hs
    exact fin J rv q
  | next =>
    obtain ⟨σ', H', J, q⟩ := hs
    exact fin (v := V.non) (u := Value.none) J rfl q
  | brk =>
    obtain ⟨_, _, _, q⟩ := hs
    exact False.elim q
  | cont =>
    obtain ⟨_, _, _, q⟩ := hs
    exact False.elim q
end L2

namespace L2
open PySem PySem.Spec PyProof.Rows
section
variable {X : Cx} {x : Str} {p pos : Pos} {e : Expr} {es : List Expr} {t : TA} {id T : String} {r : List V → Hp → VK → Prop}

noncomputable def tCB (r : List V → Hp → VK → Prop) (t : TA) : TE := fun σ H Q => t σ H fun vs H1 => r vs H1 Q
/-- f(e, ..), f a built-in function -/
theorem pe_callB (hc : CallR X (.builtin id) r) (hg : Gl X x) (hm : X.mg x = none) (hv : bootBuiltins x = some (.builtin id)) (ha : PA X (e :: es) t) (hn : x ≠ "__name__" := by decide) (hdb : (x == ("__debug__" : Str)) = false := by decide)
    (he : starEach (e :: es) X.env = (false, eval e X.env) :: starEach es X.env := by rfl) (hpl : (backTo pos (starEach es X.env)).any (·.1) = false := by rfl) : PE X (.Call (.Name x p) (e :: es) [] pos) (tCB r t) := by
  intro pins s σ H Q I h
  refine wpAny_Call_Name_kw (ld_blt I hg hm hv ?_ hn hdb)
  exact PyProof.Rows.callWith_builtin1 (thn (ha pos pins s σ H _ I h) fun us s1 ⟨vs, H1, I1, r1, q1⟩ => hc pins s1 σ H1 vs us Q I1 r1 q1) he hpl
/-- T(e, ..), T a built-in type -/
theorem pe_callTy (hc : CallR X (.type T) r) (hg : Gl X x) (hm : X.mg x = none) (hv : bootBuiltins x = some (.type T)) (ha : PA X (e :: es) t) (hn : x ≠ "__name__" := by decide) (hdb : (x == ("__debug__" : Str)) = false := by decide)
    (he : starEach (e :: es) X.env = (false, eval e X.env) :: starEach es X.env := by rfl) (hpl : (backTo pos (starEach es X.env)).any (·.1) = false := by rfl) : PE X (.Call (.Name x p) (e :: es) [] pos) (tCB r t) := by
  intro pins s σ H Q I h
  refine wpAny_Call_Name_kw (ld_blt I hg hm hv ?_ hn hdb)
  exact PyProof.Rows.callWith_type1 (thn (ha pos pins s σ H _ I h) fun us s1 ⟨vs, H1, I1, r1, q1⟩ => hc pins s1 σ H1 vs us Q I1 r1 q1) he hpl
end
end L2

namespace HT
open PySem PyProof.Rows



section
open PySem.SeqAt
open PySem.AutoSeq1 (wpAny_loadPart')
open PySem.MeetsSeq PySem.MeetsSeq2 PySem.MeetsSeq3

end

section
variable {prog : Program} {w : World} {A : Around} {E : Value → Shared → Prop} {s : Shared}


/-- t + u, t not empty -/
theorem cat_tup {t b : Addr} {vs ws : List Value} {Q : Value → Shared → Prop} (ht : IsTup s.heap t vs.toArray) (hb : IsTup s.heap b ws.toArray) (hv : vs ≠ [])
    (h1 : ws = [] → Q (.ref t) s) (h2 : ws ≠ [] → Q (.ref s.heap.objs.size) { s with heap := s.heap.push { cls := .type "tuple", data := .seq (vs ++ ws).toArray } })
    (hsz : vs.length + ws.length ≤ sizeLine) : wpAny (model prog w) A (binaryOp .Add (.ref t) (.ref b)) Q E s := by
  obtain ⟨⟨cls, dd, data, sl⟩, ho, hc, n, hd⟩ := id ht
  obtain ⟨⟨cls2, dd2, data2, sl2⟩, ho2, hc2, n2, hd2⟩ := id hb
  simp only at hc hd hc2 hd2
  subst hc hd hc2 hd2
  have e : vs.toArray ++ ws.toArray = (vs ++ ws).toArray := by simp
  by_cases hw : ws = []
  · exact concat_meets ⟨_, ho, rfl⟩ ⟨_, ho2, rfl⟩ noFill_tuple_add seq_tuple_add PySem.F.slot_tuple_add PySem.F.entry_tuple_add (PySem.F.args_tuple_add_2 _ _)
      (tuple_addW1 t b vs.toArray ws.toArray n n2 dd dd2 sl sl2 (by simpa using hv) (by simp [hw])) ⟨ho, ho2, h1 hw⟩
  · refine concat_meets ⟨_, ho, rfl⟩ ⟨_, ho2, rfl⟩ noFill_tuple_add seq_tuple_add PySem.F.slot_tuple_add PySem.F.entry_tuple_add (PySem.F.args_tuple_add_2 _ _)
      (tuple_addW2 t b vs.toArray ws.toArray n n2 dd dd2 sl sl2 (by simpa using hv) (by simpa using hw) (by rw [List.size_toArray, List.size_toArray]; exact hsz)) ⟨ho, ho2, ?_⟩
    rw [e]
    exact h2 hw

/-! ### t[a:b], not the whole -/
/-- a slice's bound as a place among n (d where it is left out) -/
noncomputable def sIx (n d : Nat) : Option Int → Nat
  | none => d
  | some v => if v < 0 then (v + (n : Int)).toNat else min v.toNat n
theorem sIx_nat (n d k : Nat) : sIx n d (some (k : Int)) = min k n := by
  show (if (k : Int) < 0 then ((k : Int) + (n : Int)).toNat else min (k : Int).toNat n) = min k n
  rw [if_neg (by omega), Int.toNat_natCast]
theorem sIx_le (n d : Nat) (hd : d ≤ n) (o : Option Int) : sIx n d o ≤ n := by
  cases o with
  | none => exact hd
  | some v =>
    show (if v < 0 then (v + (n : Int)).toNat else min v.toNat n) ≤ n
    by_cases hv : v < 0
    · rw [if_pos hv]; omega
    · rw [if_neg hv]; exact Nat.min_le_right _ _
theorem clip_eq (v : Int) (n d : Nat) : (if v < 0 then max (v + (n : Int)) 0 else min v (n : Int)) = ((sIx n d (some v) : Nat) : Int) := by
  show (if v < 0 then max (v + (n : Int)) 0 else min v (n : Int)) = (((if v < 0 then (v + (n : Int)).toNat else min v.toNat n) : Nat) : Int)
  by_cases hv : v < 0
  · simp only [if_pos hv]; omega
  · simp only [if_neg hv]; omega
theorem adjust_gen (lo hi : Option Int) (n : Nat) : Builtin.Slice.sliceAdjust lo hi 1 (n : Int) = (((sIx n 0 lo : Nat) : Int), ((sIx n n hi : Nat) : Int)) := by
  have h1 : ¬ ((1 : Int) < 0) := by omega
  unfold Builtin.Slice.sliceAdjust
  simp only [h1, if_false]
  refine Prod.ext ?_ ?_
  · cases lo with
    | none => rfl
    | some v => exact clip_eq v n 0
  · cases hi with
    | none => rfl
    | some v => exact clip_eq v n n
theorem places_gen (i j : Nat) : Builtin.Slice.slicePlaces (i : Int) (j : Int) 1 = j - i := by
  unfold Builtin.Slice.slicePlaces
  have h1 : (1 : Int) > 0 := by omega
  simp only [h1, if_true, Int.ediv_one]
  split <;> omega
theorem slicePart_ {v : Value} {o : Option Int} {Q : Option Int → Shared → Prop} (p : IsPart v o) (h : Q o s) : wpAny (model prog w) A (Builtin.Slice.slicePartIndex v) Q E s := by
  cases p with
  | none => exact slicePart_none h
  | int i t => exact slicePart_int h
theorem sliceApplied_gen {sl : Addr} {vl vu : Value} {lo hi : Option Int} {n : Nat} {Q : Int × Int × Nat → Shared → Prop} (hs : s.heap.IsSliceOf sl vl vu .none) (pl : IsPart vl lo) (pu : IsPart vu hi)
    (h : Q (((sIx n 0 lo : Nat) : Int), 1, sIx n n hi - sIx n 0 lo) s) : wpAny (model prog w) A (Builtin.Slice.sliceApplied (.ref sl) (pure (n : Int))) Q E s := by
  obtain ⟨os, hos, hcs, hds⟩ := id hs
  unfold Builtin.Slice.sliceApplied Builtin.Slice.sliceFields
  refine wpAny_bind (wpAny_bind (wpAny_field hos hds (x := vl) rfl (wpAny_bind (wpAny_field hos hds (x := vu) rfl (wpAny_bind (wpAny_field hos hds (x := .none) rfl (wpAny_pure ?_)))))))
  refine wpAny_bind (slicePart_none ?_)
  show wpAny _ _ (if ((1 : Int) == 0) = true then _ else _) _ _ s
  rw [if_neg (by decide)]
  refine wpAny_bind (slicePart_ pl (wpAny_bind (slicePart_ pu (wpAny_bind (wpAny_pure ?_)))))
  show wpAny _ _ (match Builtin.Slice.sliceAdjust lo hi 1 (n : Int) with | (lo, hi) => pure (lo, (1 : Int), Builtin.Slice.slicePlaces lo hi 1)) _ _ s
  rw [adjust_gen lo hi n]
  show wpAny _ _ (pure (((sIx n 0 lo : Nat) : Int), (1 : Int), Builtin.Slice.slicePlaces ((sIx n 0 lo : Nat) : Int) ((sIx n n hi : Nat) : Int) 1)) _ _ s
  rw [places_gen]
  exact wpAny_pure h
theorem pick_gen (xs : Array Value) (i k : Nat) : ((List.range k).filterMap fun (m : Nat) => xs[((i : Int) + (m : Int) * 1).toNat]?).toArray = ((xs.toList.drop i).take k).toArray := by
  have e : (fun (m : Nat) => xs[((i : Int) + (m : Int) * 1).toNat]?) = fun m => xs[i + m]? := by
    funext m
    have : ((i : Int) + (m : Int) * 1).toNat = i + m := by omega
    rw [this]
  rw [e]
  have := pick_run xs i k
  rw [List.filterMap_map] at this
  have e2 : ((fun x => xs[x]?) ∘ fun x => i + x) = fun m => xs[i + m]? := rfl
  rw [e2] at this
  rw [this]

theorem getItem_tuple_cut {t sl : Addr} {items : Array Value} {vl vu : Value} {lo hi : Option Int} {Q : Value → Shared → Prop} (ht : IsTup s.heap t items) (hs : s.heap.IsSliceOf sl vl vu .none) (pl : IsPart vl lo) (pu : IsPart vu hi)
    (hw : ¬ (sIx items.size 0 lo = 0 ∧ sIx items.size items.size hi = items.size))
    (h : Q (.ref s.heap.objs.size) { s with heap := s.heap.push { cls := .type "tuple", data := .seq ((items.toList.drop (sIx items.size 0 lo)).take (sIx items.size items.size hi - sIx items.size 0 lo)).toArray } })
    (hsz : items.size ≤ sizeLine) : wpAny (model prog w) A (getItem (.ref t) (.ref sl)) Q E s := by
  have htake : sizeOk (.seq ((items.toList.drop (sIx items.size 0 lo)).take (sIx items.size items.size hi - sIx items.size 0 lo)).toArray) := by
    show ((items.toList.drop (sIx items.size 0 lo)).take (sIx items.size items.size hi - sIx items.size 0 lo)).toArray.size ≤ sizeLine
    rw [List.size_toArray, List.length_take, List.length_drop, Array.length_toList]
    omega
  have hj : sIx items.size items.size hi ≤ items.size := sIx_le _ _ (Nat.le_refl _) hi
  obtain ⟨os, hos, hcs, hds⟩ := id hs
  have hTs : s.TypeIs (.ref sl) "slice" := ⟨os, hos, hcs⟩
  unfold getItem
  try with_reducible refine wpAny_holding ?_
  first | refine wpAny_bind (wpAny_pure ?_) | skip
  refine wpAny_bind (wpAny_sequenceKey ht.typeIs (by decide) ?_)
  refine wpAny_bind (wpAny_callSpecial?_slot (name := Str.ofString "__getitem__") ht.typeIs PyProof.Rows.slot_tuple_getitem
    (wpAny_call_entry PyProof.Rows.slot_tuple_getitem ht.typeIs entry_tuple_getitem ?_ (args_tuple_getitem _ _)))
  show wpAny _ _ (Builtin.Tuple.tupleItemsOf (.ref t) >>= _) _ _ s
  refine wpAny_bind (tupleItemsOf_ ht ?_)
  refine wpAny_bind (wpAny_typeOf hTs ?_)
  rw [if_pos (by decide)]
  refine wpAny_bind (sliceApplied_gen hs pl pu ?_)
  have hno : ¬ ((((sIx items.size 0 lo : Nat) : Int) == 0 && (1 : Int) == 1 && (sIx items.size items.size hi - sIx items.size 0 lo) == items.size) = true) := by
    intro q
    rw [Bool.and_eq_true, Bool.and_eq_true] at q
    have q1 : ((sIx items.size 0 lo : Nat) : Int) = 0 := eq_of_beq q.1.1
    have q2 : sIx items.size items.size hi - sIx items.size 0 lo = items.size := eq_of_beq q.2
    exact hw ⟨by omega, by omega⟩
  show wpAny _ _ (if (((sIx items.size 0 lo : Nat) : Int) == 0 && (1 : Int) == 1 && (sIx items.size items.size hi - sIx items.size 0 lo) == items.size) = true then _ else _) _ _ s
  rw [if_neg hno, pick_gen]
  first
    | exact wpAny_bind (m := Builtin.Tuple.tupleExact _) (wpAny_newObj_type (wpAny_pure ⟨_, rfl, wpAny_pure h⟩) htake)
    | exact wpAny_bind (m := Builtin.Tuple.tupleExact _) (wpAny_newObj_type (wpAny_bind (wpAny_pure (wpAny_pure ⟨_, rfl, wpAny_pure h⟩))) htake)
    | exact wpAny_bind (wpAny_bind (m := Builtin.Tuple.tupleExact _) (wpAny_newObj_type (wpAny_pure (wpAny_pure ⟨_, rfl, wpAny_pure h⟩)) htake))
    | exact wpAny_bind (wpAny_bind (m := Builtin.Tuple.tupleExact _) (wpAny_newObj_type (wpAny_pure ⟨_, rfl, wpAny_pure h⟩) htake))
end
end HT

namespace L2
open PySem PySem.Spec PyProof.Rows

/-! ### the parts of a slice -/
noncomputable abbrev TO := St → Hp → (Option Int → Hp → Prop) → Prop
/-- a slice's part (left out, or an int) -/
noncomputable def PO (X : Cx) (e : Option Expr) (t : TO) : Prop :=
  ∀ (pins : List (Addr × Obj)) (s : Shared) (σ : St) (H : Hp) (Q : Option Int → Hp → Prop), Inv X pins σ H s → t σ H Q →
    wpAny (model X.prog X.w) X.A (evalPart e X.env) (fun u s' => ∃ o H', Inv X pins σ H' s' ∧ IsPart u o ∧ Q o H') X.xe s
noncomputable def tNoPart : TO := fun _ H Q => Q none H
noncomputable def tPart (t : TE) : TO := fun σ H Q => t σ H fun x H1 => ∃ i, x = .int i ∧ Q (some i) H1


section
variable {X : Cx} {e : Expr} {te : TE} {lo hi : Option Expr} {tl th : TO} {pos p2 : Pos}

theorem po_none : PO X none tNoPart := by
  intro pins s σ H Q I h
  rw [evalPart_none]
  exact wpAny_pure ⟨none, H, I, .none, h⟩
theorem po_some (h : PE X e te) : PO X (some e) (tPart te) := by
  intro pins s σ H Q I hw
  rw [evalPart_some]
  refine thn (h pins s σ H _ I hw) fun u s1 ⟨x, H1, I1, r1, q1⟩ => ?_
  obtain ⟨i, rfl, q⟩ := q1
  obtain ⟨t, rfl⟩ := r1
  exact ⟨some i, H1, I1, .int i t, q⟩

/-- what a slice of a value is, by values: the slice object stands at sl -/
noncomputable def SlR (X : Cx) (r : V → Option Int → Option Int → Hp → VK → Prop) : Prop :=
  ∀ (pins : List (Addr × Obj)) (s : Shared) (σ : St) (H : Hp) (x : V) (v vl vu : Value) (lo hi : Option Int) (sl : Addr) (Q : VK), Inv X pins σ H s → RelV x v → s.heap.IsSliceOf sl vl vu .none → IsPart vl lo → IsPart vu hi → r x lo hi H Q →
    ∃ T id, typeLookup (.type T) "__getitem__" = pure (some (.builtin id)) ∧ s.TypeIs v T ∧ wpAny (model X.prog X.w) X.A (getItem v (.ref sl)) (EP X pins σ Q) X.xe s
noncomputable def tSl (r : V → Option Int → Option Int → Hp → VK → Prop) (te : TE) (tl th : TO) : TE := fun σ H Q => te σ H fun x H1 => tl σ H1 fun l H2 => th σ H2 fun u H3 => r x l u H3 Q
/-- a[lo:hi], any a -/
theorem pe_slice {r : V → Option Int → Option Int → Hp → VK → Prop} (hr : SlR X r) (he : PE X e te) (hl : PO X lo tl) (hu : PO X hi th) : PE X (.Subscript e (.Slice lo hi none p2) pos) (tSl r te tl th) := by
  intro pins s σ H Q I h
  refine Subscript_ (thn (he pins s σ H _ I h) fun v s1 ⟨x, H1, I1, r1, q1⟩ => ?_)
  refine wpAny_Slice (thn (hl pins s1 σ H1 _ I1 q1) fun vl s2 ⟨l, H2, I2, pl, q2⟩ => thn (hu pins s2 σ H2 _ I2 q2) fun vu s3 ⟨u, H3, I3, pu, q3⟩ => ?_)
  rw [evalPart_none]
  refine wpAny_pure ?_
  have I4 : Inv X pins σ H3 { s3 with heap := s3.heap.push { cls := .type "slice", data := .fields #[vl, vu, .none] } } := I3.kept (t' := s3.toks) fun b ob q => Heap.get?_push_of_some _ q
  obtain ⟨T, id, hT, ht, hg⟩ := hr pins { s3 with heap := s3.heap.push { cls := .type "slice", data := .fields #[vl, vu, .none] } } σ H3 x v vl vu l u s3.heap.objs.size Q I4 r1 (Heap.IsSliceOf.new ..) pl pu q3
  show wpAny (model X.prog X.w) X.A (subscriptTail e (.Slice lo hi none p2) v (.ref s3.heap.objs.size)) (EP X pins σ Q) X.xe { s3 with heap := s3.heap.push { cls := .type "slice", data := .fields #[vl, vu, .none] } }
  exact tail_any (ops := [.ref s3.heap.objs.size, v]) ht hT hg (by with_unfolding_all rfl)

/-- the items of xs[lo:hi] -/
noncomputable def cutV (xs : List V) (lo hi : Option Int) : List V := (xs.drop (HT.sIx xs.length 0 lo)).take (HT.sIx xs.length xs.length hi - HT.sIx xs.length 0 lo)
theorem cutV_length (xs : List V) (lo hi : Option Int) : (cutV xs lo hi).length ≤ xs.length := by
  unfold cutV
  rw [List.length_take, List.length_drop]
  omega
/-- t[lo:hi], not the whole of it (the whole would be t itself) -/
noncomputable def rSlT (K : PySem.W.Frag) : V → Option Int → Option Int → Hp → VK → Prop := fun x lo hi H Q => ∃ a xs, x = .ref a ∧ SqT K H a xs ∧
  ¬ (HT.sIx xs.length 0 lo = 0 ∧ HT.sIx xs.length xs.length hi = xs.length) ∧ ∀ p, H p = none → Q (.ref p) (upd H p (.tup (cutV xs lo hi)))
theorem sl_tup : SlR X (rSlT X.K) := by
  intro pins s σ H x v vl vu lo hi sl Q I rx hs pl pu h
  obtain ⟨a, xs, rfl, hx, hw, q⟩ := h
  cases rx
  obtain ⟨its, r, ht, hz⟩ := I.tuple hx
  have hlen : its.toArray.size = xs.length := by rw [List.size_toArray]; exact r.length.symm
  refine ⟨"tuple", _, PyProof.Rows.slot_tuple_getitem.lookup, ht.typeIs, ?_⟩
  refine HT.getItem_tuple_cut ht hs pl pu (by rw [hlen]; exact hw) ?_ (by rw [hlen]; exact hz)
  rw [hlen]
  refine ⟨.ref s.heap.objs.size, _, I.laid (t' := s.toks) (o := .tup (cutV xs lo hi)) (fun b ob q => Heap.get?_push_of_some _ q) (Nat.le_refl _) ?_, rfl, q _ (I.hok.fresh (Nat.le_refl _))⟩
  exact ⟨Nat.le_trans (cutV_length xs lo hi) hz, _, (r.drop (HT.sIx xs.length 0 lo)).take (HT.sIx xs.length xs.length hi - HT.sIx xs.length 0 lo), IsTup.new _ _⟩

/-! ### t < u, t + u -/
/-- t + u, t not empty: u empty gives t itself -/
noncomputable def rCatT (K : PySem.W.Frag) : R2 := fun x y H Q => ∃ a b xs ys, x = .ref a ∧ y = .ref b ∧ SqT K H a xs ∧ SqT K H b ys ∧ xs ≠ [] ∧ xs.length + ys.length ≤ sizeLine ∧
  (ys = [] → Q (.ref a) H) ∧ (ys ≠ [] → ∀ p, H p = none → Q (.ref p) (upd H p (.tup (xs ++ ys))))
theorem Vals.nil_iff {xs : List V} {us : List Value} (r : Vals xs us) : us = [] ↔ xs = [] := by
  cases r with
  | nil => simp
  | cons _ _ => simp
theorem op_catT : OpR X (binaryOp .Add) (rCatT X.K) := by
  intro pins s σ H x y v u Q I rx ry h
  obtain ⟨a, b, xs, ys, rfl, rfl, ha, hb, hx, hz, q1, q2⟩ := h
  cases rx
  cases ry
  obtain ⟨its, r1, p1, _⟩ := I.tuple ha
  obtain ⟨its2, r2, p2, _⟩ := I.tuple hb
  refine HT.cat_tup p1 p2 (fun z => hx (r1.nil_iff.mp z)) (fun z => ⟨.ref a, H, I, rfl, q1 (r2.nil_iff.mp z)⟩) (fun z => ?_) (by rw [← r1.length, ← r2.length]; exact hz)
  refine ⟨.ref s.heap.objs.size, _, I.laid (t' := s.toks) (o := .tup (xs ++ ys)) (fun b ob q => Heap.get?_push_of_some _ q) (Nat.le_refl _) ?_, rfl, q2 (fun w => z (r2.nil_iff.mpr w)) _ (I.hok.fresh (Nat.le_refl _))⟩
  exact ⟨by rw [List.length_append]; exact hz, _, r1.append r2, IsTup.new _ _⟩
end
end L2

namespace L2
open PySem PySem.Spec PyProof.Rows

/-! ### places -/
/-- the place that an index of any sign means -/
noncomputable def ixN (n : Nat) (i : Int) : Option Nat := if 0 ≤ i then (if i < n then some i.toNat else none) else if -(n : Int) ≤ i then some (i + n).toNat else none
noncomputable def atI {α : Type} (xs : List α) (i : Int) : Option α := (ixN xs.length i).bind fun j => xs[j]?
theorem ixN_seq {n : Nat} {i : Int} {j : Nat} (h : ixN n i = some j) : seqIndex? i n = some j ∧ j < n ∧ -(n : Int) ≤ i ∧ i < n := by
  unfold ixN at h
  by_cases h0 : 0 ≤ i
  · rw [if_pos h0] at h
    by_cases h1 : i < n
    · rw [if_pos h1] at h
      have e : i.toNat = j := Option.some.inj h
      exact ⟨by rw [seqIndex_of h0 h1, e], by omega, by omega, h1⟩
    · rw [if_neg h1] at h; cases h
  · rw [if_neg h0] at h
    by_cases h1 : -(n : Int) ≤ i
    · rw [if_pos h1] at h
      have e : (i + n).toNat = j := Option.some.inj h
      exact ⟨by rw [seqIndex_neg (by omega) h1, e], by omega, h1, by omega⟩
    · rw [if_neg h1] at h; cases h
theorem atI_get {α : Type} {xs : List α} {i : Int} {v : α} (h : atI xs i = some v) : ∃ j, seqIndex? i xs.length = some j ∧ xs[j]? = some v ∧ j < xs.length ∧ -(xs.length : Int) ≤ i ∧ i < xs.length := by
  unfold atI at h
  cases e : ixN xs.length i with
  | none => rw [e] at h; cases h
  | some j =>
    rw [e] at h
    obtain ⟨h1, h2, h3, h4⟩ := ixN_seq e
    exact ⟨j, h1, h, h2, h3, h4⟩
theorem atI_nat {α : Type} {xs : List α} {j : Nat} {v : α} (h : xs[j]? = some v) : atI xs (j : Int) = some v := by
  have hj : j < xs.length := (List.getElem?_eq_some_iff.mp h).1
  have e : ixN xs.length (j : Int) = some j := by
    unfold ixN
    rw [if_pos (by omega), if_pos (by omega)]; simp
  unfold atI; rw [e]; exact h

/-! ### what may be subscripted -/
/-- what stands as an index of a plain subscript -/
noncomputable def PlainIx (b : Expr) : Prop := ∀ o i, subscripted b false o i = operate [o, i] (getItem o i)
/-- a subscript by values -/
noncomputable def IxR (X : Cx) (r : R2) : Prop :=
  ∀ (value slice : Expr) (pins : List (Addr × Obj)) (s : Shared) (σ : St) (H : Hp) (x y : V) (v u : Value) (Q : VK), Inv X pins σ H s → RelV x v → RelV y u → r x y H Q →
    subscripted slice false v u = operate [v, u] (getItem v u) → wpAny (model X.prog X.w) X.A (subscriptTail value slice v u) (EP X pins σ Q) X.xe s
/-- a call of a builtin's method by values: the receiver, the arguments -/
noncomputable def MtR (X : Cx) (id : String) (r : V → List V → Hp → VK → Prop) : Prop :=
  ∀ (pins : List (Addr × Obj)) (s : Shared) (σ : St) (H : Hp) (x : V) (xs : List V) (v : Value) (us : List Value) (Q : VK), Inv X pins σ H s → RelV x v → Vals xs us → r x xs H Q →
    wpAny (model X.prog X.w) X.A (call (.builtin id) (v :: us)) (EP X pins σ Q) X.xe s
section
variable {X : Cx} {a b : Expr} {ta tb : TE} {pos : Pos}
/-- a[b] -/
theorem pe_ix {r : R2} (hr : IxR X r) (ha : PE X a ta) (hb : PE X b tb) (hs : PlainIx b) : PE X (.Subscript a b pos) (tOp r ta tb) := by
  intro pins s σ H Q I h
  exact Subscript_ (binT ha hb I h fun v u s2 x y H2 I2 rx ry q => hr a b pins s2 σ H2 x y v u Q I2 rx ry q (hs _ _))

noncomputable def rIxL (K : PySem.W.Frag) : R2 := fun x y H Q => ∃ p xs i v, x = .ref p ∧ y = .int i ∧ SqL K H p xs ∧ atI xs i = some v ∧ Q v H
noncomputable def rIxT (K : PySem.W.Frag) : R2 := fun x y H Q => ∃ p xs i v, x = .ref p ∧ y = .int i ∧ SqT K H p xs ∧ atI xs i = some v ∧ Q v H
noncomputable def rIxS : R2 := fun x y H Q => ∃ z i c, x = .str z ∧ y = .int i ∧ z.length ≤ sizeLine ∧ atI z.cps.toList i = some c ∧ Q (.str ⟨#[c]⟩) H
theorem ix_list : IxR X (rIxL X.K) := by
  intro value slice pins s σ H x y v u Q I rx ry h hs
  obtain ⟨p, xs, i, z, rfl, rfl, hq, he, q⟩ := h
  cases rx
  obtain ⟨t, rfl⟩ := ry
  obtain ⟨its, r, pl, hz⟩ := I.list hq
  obtain ⟨j, h1, h2, h3, h4, h5⟩ := atI_get he
  obtain ⟨w, ew, rw'⟩ := r.get h2
  have hl := r.length
  have hn := line63
  have fin : EP X pins σ Q w s := ⟨z, H, I, rw', q⟩
  by_cases h0 : 0 ≤ i
  · have hj : i.toNat = j := by
      rw [seqIndex_of h0 h5] at h1
      exact Option.some.inj h1
    exact item_listR pl.isList h0 (by omega) (by rw [hj]; simpa using ew) fin hs
  · have hj : (i + (its.toArray.size : Int)).toNat = j := by
      rw [seqIndex_neg (by omega) h4] at h1
      rw [List.size_toArray, ← hl]
      exact Option.some.inj h1
    exact subscriptTail_builtinR (x := w) pl.isList.typeIs slot_list_getitem.lookup
      (wpAny_getItem_list_neg (Q := fun r s' => r = w ∧ EP X pins σ Q r s') pl.isList (by omega) (by rw [List.size_toArray] <;> omega) (by omega) (by rw [hj]; simpa using ew) ⟨rfl, fin⟩) hs
theorem ix_tup : IxR X (rIxT X.K) := by
  intro value slice pins s σ H x y v u Q I rx ry h hs
  obtain ⟨p, xs, i, z, rfl, rfl, hq, he, q⟩ := h
  cases rx
  obtain ⟨t, rfl⟩ := ry
  obtain ⟨its, r, pl, hz⟩ := I.tuple hq
  obtain ⟨j, h1, h2, h3, h4, h5⟩ := atI_get he
  obtain ⟨w, ew, rw'⟩ := r.get h2
  have hl := r.length
  have hn := line63
  have fin : EP X pins σ Q w s := ⟨z, H, I, rw', q⟩
  exact subscriptTail_builtinR (x := w) pl.typeIs slot_tuple_getitem.lookup
    (getItem_tuple (j := j) (Q := fun r s' => r = w ∧ EP X pins σ Q r s') pl (by omega) (by omega) (by rw [List.size_toArray, ← hl]; exact h1) (by simpa using ew) ⟨rfl, fin⟩) hs
theorem ix_str : IxR X rIxS := by
  intro value slice pins s σ H x y v u Q I rx ry h hs
  obtain ⟨z, i, c, rfl, rfl, hz, he, q⟩ := h
  obtain ⟨t, rfl⟩ := rx
  obtain ⟨t', rfl⟩ := ry
  obtain ⟨j, h1, h2, h3, h4, h5⟩ := atI_get he
  have hl : z.cps.toList.length = z.length := by simp [Str.length]
  rw [hl] at h1 h4 h5
  have hn := line63
  exact tail_any (typeIs_str s z t) slot_str_getitem.lookup (getItem_str (c := c) (by
    have e1 : decide (i < -(2 ^ 63 : Int)) = false := decide_eq_false (by omega)
    have e2 : decide (i ≥ 2 ^ 63) = false := decide_eq_false (by omega)
    rw [e1, e2, Bool.or_false]) (by rw [h1]; simpa using h2) ⟨.str ⟨#[c]⟩, H, I.tok _, ⟨_, rfl⟩, q⟩) hs

/-! ### xs[i] = v, any sign -/
/-- the list's object behind a store -/
theorem mapSeq_set (its : List Value) (n j : Nat) (u : Value) : Obj.mapSeq (·.setIfInBounds j u) { cls := .type "list", data := .seq its.toArray n } = { cls := .type "list", data := .seq (its.set j u).toArray n } := by
  simp [Obj.mapSeq]
theorem Inv.lst {pins : List (Addr × Obj)} {σ : St} {H : Hp} {s : Shared} {p : Addr} {xs : List V} (I : Inv X pins σ H s) (h : H p = some (.lst xs)) :
    ∃ (its : List Value) (n : Nat), Vals xs its ∧ s.heap.get? p = some { cls := .type "list", data := .seq its.toArray n } ∧ xs.length ≤ sizeLine := by
  obtain ⟨z, its, n, r, e⟩ := I.hok p _ h
  exact ⟨its, n, r, e, z⟩
/-- the list at p is written by an update of its object -/
theorem Inv.lstUpd {pins : List (Addr × Obj)} {σ : St} {H : Hp} {s : Shared} {p : Addr} {xs ys : List V} {its its' : List Value} {n n' : Nat} {f : Obj → Obj} (I : Inv X pins σ H s) (h : H p = some (.lst xs))
    (ho : s.heap.get? p = some { cls := .type "list", data := .seq its.toArray n }) (hf : f { cls := .type "list", data := .seq its.toArray n } = { cls := .type "list", data := .seq its'.toArray n' }) (r : Vals ys its') (hz : ys.length ≤ sizeLine) (t : Nat) :
    Inv X pins σ (upd H p (.lst ys)) { s with heap := s.heap.update p f, toks := t } := by
  have e : (s.heap.update p f).get? p = some { cls := .type "list", data := .seq its'.toArray n' } := by
    rw [Heap.get?_update_self f ho (by rw [hf] <;> rfl), hf]
  refine I.write (x := p) (e := p) (by rw [h]; trivial) (.inl rfl) (fun b u hb q => (Heap.get?_update_other _ _ (Ne.symm hb)).trans q) ⟨_, e⟩ ?_
  exact ⟨hz, its', n', r, e⟩
noncomputable def rSetL : V → V → V → Hp → (Hp → Prop) → Prop := fun o i v H Q => ∃ p xs k j, o = .ref p ∧ i = .int k ∧ H p = some (.lst xs) ∧ ixN xs.length k = some j ∧ Q (upd H p (.lst (xs.set j v)))
theorem set_list : PSet X rSetL := by
  intro pins s σ H o i v ov iv u Q I ro ri rv h
  obtain ⟨p, xs, k, j, rfl, rfl, hp, hj, q⟩ := h
  cases ro
  obtain ⟨t, rfl⟩ := ri
  obtain ⟨its, n, r, ho, hz⟩ := I.lst hp
  obtain ⟨h1, h2, h3, h4⟩ := ixN_seq hj
  have hl := r.length
  have hn := line63
  have I' : Inv X pins σ (upd H p (.lst (xs.set j v))) { s with heap := s.heap.update p (Obj.mapSeq (·.setIfInBounds j u)) } :=
    I.lstUpd hp ho (mapSeq_set its n j u) (r.set rv j) (by rw [List.length_set]; exact hz) s.toks
  by_cases h0 : 0 ≤ k
  · have hk : k.toNat = j := by
      rw [seqIndex_of h0 h4] at h1
      exact Option.some.inj h1
    exact PySem.W.ki_setAt ho h0 (by omega) (by rw [List.size_toArray, ← hl]; exact h4) (by rw [hk]; exact ⟨_, I', q⟩)
  · have hk : (k + (its.toArray.size : Int)).toNat = j := by
      rw [seqIndex_neg (by omega) h3] at h1
      rw [List.size_toArray, ← hl]
      exact Option.some.inj h1
    exact PySem.W.ki_setBack ho (by omega) (by rw [List.size_toArray, ← hl]; exact h3) (by omega) (by rw [hk]; exact ⟨_, I', q⟩)

/-! ### slices -/
theorem slice_bounds (lo hi : Option Int) (n : Nat) : (sliceBounds lo hi none n).1 = ((HT.sIx n 0 lo : Nat) : Int) ∧ (sliceBounds lo hi none n).2.1 = ((HT.sIx n n hi : Nat) : Int) ∧ (sliceBounds lo hi none n).2.2 = 1 := by
  refine ⟨?_, ?_, rfl⟩
  · cases lo with
    | none => simp [sliceBounds, HT.sIx]
    | some i =>
      simp only [sliceBounds, HT.sIx, Option.getD_none, show (1 : Int) > 0 by decide, if_true]
      by_cases h : i < 0
      · simp only [h, if_true] <;> omega
      · simp only [h, if_false] <;> omega
  · cases hi with
    | none => simp [sliceBounds, HT.sIx]
    | some i =>
      simp only [sliceBounds, HT.sIx, Option.getD_none, show (1 : Int) > 0 by decide, if_true]
      by_cases h : i < 0
      · simp only [h, if_true] <;> omega
      · simp only [h, if_false] <;> omega
theorem slicePick_cut (its : List Value) (lo hi : Option Int) : slicePick its.toArray lo hi none = ((its.drop (HT.sIx its.length 0 lo)).take (HT.sIx its.length its.length hi - HT.sIx its.length 0 lo)).toArray := by
  obtain ⟨h1, h2, h3⟩ := slice_bounds lo hi its.toArray.size
  unfold slicePick
  rw [h1, h2, h3]
  simp only [sliceRange_one, pick_run, List.size_toArray] <;> rfl
/-- xs[lo:hi] of a list: a new list -/
noncomputable def rSlL (K : PySem.W.Frag) : V → Option Int → Option Int → Hp → VK → Prop := fun x lo hi H Q => ∃ a xs, x = .ref a ∧ SqL K H a xs ∧ ∀ p, H p = none → Q (.ref p) (upd H p (.lst (cutV xs lo hi)))
theorem sl_list : SlR X (rSlL X.K) := by
  intro pins s σ H x v vl vu lo hi sl Q I rx hs pl pu h
  obtain ⟨a, xs, rfl, hx, q⟩ := h
  cases rx
  obtain ⟨its, r, ht, hz⟩ := I.list hx
  have hlen := r.length
  refine ⟨"list", _, slot_list_getitem.lookup, ht.isList.typeIs, ?_⟩
  refine wpAny_getItem_list_slice ht.isList hs pl pu .none (by simp) ?_ (by rw [List.size_toArray] <;> omega)
  rw [slicePick_cut, ← hlen]
  refine ⟨.ref s.heap.objs.size, _, I.laid (t' := s.toks) (o := .lst (cutV xs lo hi)) (fun b ob q => Heap.get?_push_of_some _ q) (Nat.le_refl _) ?_, rfl, q _ (I.hok.fresh (Nat.le_refl _))⟩
  exact ⟨Nat.le_trans (cutV_length xs lo hi) hz, _, 0, (r.drop (HT.sIx xs.length 0 lo)).take (HT.sIx xs.length xs.length hi - HT.sIx xs.length 0 lo), Heap.get?_push_size _ rfl⟩

/-! ### in, not in: flat items -/

/-! ### len, list(x), tuple(x) of any list or tuple that is read -/
theorem call_len_seq : CallR X (.builtin "len") (fun xs H Q => ∃ p ys, xs = [.ref p] ∧ (SqL X.K H p ys ∨ SqT X.K H p ys) ∧ Q (.int ys.length) H) := by
  intro pins s σ H xs us Q I r h
  obtain ⟨p, ys, rfl, hq, q⟩ := h
  obtain ⟨u, rfl, rx⟩ := vals1 r
  cases rx
  have hn := line63
  rcases hq with hq | hq
  · obtain ⟨its, r', pl, hz⟩ := I.list hq
    have hlen := r'.length
    exact Calls.call_len_list pl.isList (by simp only [List.size_toArray] <;> omega) ⟨.int ys.length, H, I.tok _, ⟨s.toks + 1, by rw [List.size_toArray, hlen]⟩, q⟩
  · obtain ⟨its, r', pl, hz⟩ := I.tuple hq
    have hlen := r'.length
    exact len_tuple pl (by simp only [List.size_toArray] <;> omega) ⟨.int ys.length, H, I.tok _, ⟨s.toks + 1, by rw [List.size_toArray, hlen]⟩, q⟩
theorem call_len_str : CallR X (.builtin "len") (fun xs H Q => ∃ z, xs = [.str z] ∧ z.length ≤ sizeLine ∧ Q (.int z.length) H) := by
  intro pins s σ H xs us Q I r h
  obtain ⟨z, rfl, hz, q⟩ := h
  obtain ⟨u, rfl, t, rfl⟩ := vals1 r
  have hn := line63
  exact len_str (by omega) ⟨.int z.length, H, I.tok _, ⟨_, rfl⟩, q⟩
theorem call_list_of : CallR X (.type "list") (fun xs H Q => ∃ p ys, xs = [.ref p] ∧ (SqL X.K H p ys ∨ SqT X.K H p ys) ∧ ∀ l, H l = none → Q (.ref l) (upd H l (.lst ys))) := by
  intro pins s σ H xs us Q I r h
  obtain ⟨p, ys, rfl, hq, q⟩ := h
  obtain ⟨u, rfl, rx⟩ := vals1 r
  cases rx
  have fin : ∀ (its : List Value), Vals ys its → ys.length ≤ sizeLine → ∀ (h' : Heap) (c' : Nat), (∀ b o', s.heap.get? b = some o' → h'.get? b = some o') →
      h'.get? s.heap.objs.size = some { cls := .type "list", dict := none, data := .seq its.toArray c', slots := #[] } → EP X pins σ Q (.ref s.heap.objs.size) { s with heap := h' } := fun its r' hz h' c' kp e =>
    ⟨.ref s.heap.objs.size, _, I.laid (t' := s.toks) kp (Nat.le_refl _) (show ObjOk X.prog X.w _ h' _ (.lst ys) from ⟨hz, its, c', r', e⟩), rfl, q _ (I.hok.fresh (Nat.le_refl _))⟩
  rcases hq with hq | hq
  · obtain ⟨its, r', pl, hz⟩ := I.list hq
    have hlen := r'.length
    obtain ⟨o, ho, hc, n, hd⟩ := pl.isList
    exact call_list_seq p (.inl rfl) ho hc hd (fun h' c' kp e => fin its r' hz h' c' kp e) (by simp only [List.size_toArray] <;> omega)
  · obtain ⟨its, r', pl, hz⟩ := I.tuple hq
    have hlen := r'.length
    obtain ⟨o, ho, hc, n, hd⟩ := pl
    exact call_list_seq p (.inr rfl) ho hc hd (fun h' c' kp e => fin its r' hz h' c' kp e) (by simp only [List.size_toArray] <;> omega)
theorem call_tuple_of : CallR X (.type "tuple") (fun xs H Q => ∃ p ys, xs = [.ref p] ∧ ((SqL X.K H p ys ∧ ∀ l, H l = none → Q (.ref l) (upd H l (.tup ys))) ∨ (SqT X.K H p ys ∧ Q (.ref p) H))) := by
  intro pins s σ H xs us Q I r h
  obtain ⟨p, ys, rfl, h⟩ := h
  obtain ⟨u, rfl, rx⟩ := vals1 r
  cases rx
  rcases h with ⟨hq, q⟩ | ⟨hq, q⟩
  · obtain ⟨its, r', pl, hz⟩ := I.list hq
    have hlen := r'.length
    refine call_tuple_list pl.isList (fun h' kp => ?_) (by simp only [List.size_toArray] <;> omega)
    have I1 : Inv X pins σ H { s with heap := h' } := I.kept (t' := s.toks) kp
    have I2 : Inv X pins σ (upd H h'.objs.size (.tup ys)) { s with heap := h'.push { cls := .type "tuple", data := .seq its.toArray } } :=
      I1.laid (t' := s.toks) (fun b o e => Heap.get?_push_of_some _ e) (Nat.le_refl _) (show ObjOk X.prog X.w _ _ _ (.tup ys) from ⟨hz, its, r', IsTup.new _ _⟩)
    exact ⟨.ref h'.objs.size, _, I2, rfl, q _ (I1.hok.fresh (Nat.le_refl _))⟩
  · obtain ⟨its, r', pl, hz⟩ := I.tuple hq
    exact call_tuple_same pl ⟨.ref p, H, I, rfl, q⟩

/-! ### the call of a builtin's method: o.m(..) -/
/-- the value is of that builtin type -/
noncomputable def tyV (K : PySem.W.Frag) (T : String) (x : V) (H : Hp) : Prop := match x with
  | .str _ => T = "str"
  | .int _ => T = "int"
  | .ref p => (T = "list" ∧ ∃ xs, SqL K H p xs) ∨ (T = "tuple" ∧ ∃ o, K.lookup p = some o ∧ o.cls = .type "tuple" ∧ o.dict = none) ∨
      (T = "dict" ∧ ((∃ kvs, H p = some (.dK kvs)) ∨ ∃ kvs, H p = some (.dT kvs))) ∨ (T = "set" ∧ ∃ S n, H p = some (.set S n))
  | _ => False
theorem tyV_is {pins : List (Addr × Obj)} {σ : St} {H : Hp} {s : Shared} {T : String} {x : V} {v : Value} (I : Inv X pins σ H s) (r : RelV x v) (ty : tyV X.K T x H) :
    s.TypeIs v T ∧ ∀ a, v = .ref a → ∃ ob, s.heap.get? a = some ob ∧ ob.dict = none := by
  cases x with
  | str z =>
    obtain ⟨t, rfl⟩ := r
    cases (show T = "str" from ty)
    exact ⟨typeIs_str s z t, fun _ e => nomatch e⟩
  | int i =>
    obtain ⟨t, rfl⟩ := r
    cases (show T = "int" from ty)
    exact ⟨typeIs_int s i t, fun _ e => nomatch e⟩
  | ref p =>
    cases r
    rcases ty with ⟨rfl, xs, hq⟩ | ⟨rfl, o, hk, hc, hd⟩ | ⟨rfl, hk⟩ | ⟨rfl, S, n, hk⟩
    · obtain ⟨its, _, pl, _⟩ := I.list hq
      refine ⟨pl.isList.typeIs, fun a e => ?_⟩
      cases e
      obtain ⟨o, n, e, c, hd, _⟩ := pl
      exact ⟨o, e, hd⟩
    · refine ⟨⟨o, I.kIn p o hk, hc⟩, fun a e => ?_⟩
      cases e
      exact ⟨o, I.kIn _ o hk, hd⟩
    · have z : ∃ o, s.heap.get? p = some o ∧ o.ExactDict := by
        rcases hk with ⟨kvs, hk⟩ | ⟨kvs, hk⟩
        · obtain ⟨_, _, _, _, o, _, _, e, ex, _⟩ := I.hok p _ hk
          exact ⟨o, e, ex⟩
        · obtain ⟨_, _, _, _, o, _, _, e, ex, _⟩ := I.hok p _ hk
          exact ⟨o, e, ex⟩
      obtain ⟨o, e, ex⟩ := z
      refine ⟨⟨o, e, ex.1⟩, fun a e2 => ?_⟩
      cases e2
      exact ⟨o, e, ex.2.1⟩
    · obtain ⟨o, _, _, _, e, ex, _⟩ := I.hok p _ hk
      refine ⟨⟨o, e, ex.1⟩, fun a e2 => ?_⟩
      cases e2
      exact ⟨o, e, ex.2.1⟩
  | _ => exact False.elim ty
noncomputable def tBM0 (K : PySem.W.Frag) (T : String) (r : V → List V → Hp → VK → Prop) (to : TE) : TE := fun σ H Q => to σ H fun x H1 => tyV K T x H1 ∧ r x [] H1 Q
noncomputable def tBM (K : PySem.W.Frag) (T : String) (r : V → List V → Hp → VK → Prop) (to : TE) (t : TA) : TE := fun σ H Q => to σ H fun x H1 => tyV K T x H1 ∧ t σ H1 fun xs H2 => r x xs H2 Q
variable {o e : Expr} {es : List Expr} {to : TE} {t : TA} {name : Str} {apos cpos : Pos} {T id : String} {r : V → List V → Hp → VK → Prop}
theorem pe_bm0 (pa : PlainAttrs T) (slot : Slot T name id) (hty : typeOf (.builtin id) = pure (.type "method_descriptor")) (hm : MtR X id r) (ho : PE X o to)
    (hbase : attributeBase o name X.env (eval o X.env) = eval o X.env := by rfl) (hline : (apos.endLine == cpos.line) = true := by rfl) : PE X (.Call (.Attribute o name apos) [] [] cpos) (tBM0 X.K T r to) := by
  intro pins s σ H Q I h
  refine wpAny_Call_method0_late hbase hline (thn (ho pins s σ H _ I h) fun v s1 ⟨x, H1, I1, r1, ty, q1⟩ => ?_)
  obtain ⟨h1, h2⟩ := tyV_is I1 r1 ty
  exact ⟨T, id, pa, slot, hty, h1, h2, Calls.callWith_builtin rfl (PySem.evalArgs_none (hm pins s1 σ H1 x [] v [] Q I1 r1 .nil q1))⟩
theorem pe_bm (pa : PlainAttrs T) (slot : Slot T name id) (hty : typeOf (.builtin id) = pure (.type "method_descriptor")) (hm : MtR X id r) (ho : PE X o to) (ha : PA X (e :: es) t)
    (hbase : attributeBase o name X.env (eval o X.env) = eval o X.env := by rfl)
    (hfew : ((backTo cpos (starEach (e :: es) X.env)).all (fun x => !x.1) && (backToKw cpos (keywordEach [] X.env)).all (fun x => x.1.isSome)
      && decide ((e :: es).length + ([] : List Keyword).length + (if ([] : List Keyword).isEmpty then 0 else 1) < 30)) = true := by rfl)
    (hline : (apos.endLine == cpos.line) = true := by rfl) (hs : starEach (e :: es) X.env = (false, eval e X.env) :: starEach es X.env := by rfl) (hplain : (backTo cpos (starEach es X.env)).any (·.1) = false := by rfl) :
    PE X (.Call (.Attribute o name apos) (e :: es) [] cpos) (tBM X.K T r to t) := by
  intro pins s σ H Q I h
  refine wpAny_Call_method_late hbase hfew hline rfl (thn (ho pins s σ H _ I h) fun v s1 ⟨x, H1, I1, r1, ty, q1⟩ => ?_)
  obtain ⟨h1, h2⟩ := tyV_is I1 r1 ty
  refine ⟨T, id, pa, slot, hty, h1, h2, ?_⟩
  have hA := ha cpos pins s1 σ H1 _ I1 q1
  rw [hs] at hA ⊢
  refine Calls.callWith_builtin (by show (false || (backTo cpos (starEach es X.env)).any (·.1)) = false; rw [hplain] <;> rfl) (Calls.evalArgs_plain ?_)
  exact thn hA fun us s2 ⟨vs, H2, I2, r2, q2⟩ => hm pins s2 σ H2 x vs v us Q I2 r1 r2 q2
/- xs.append(e), list.index on a module's tuple .. are MtR facts of 06m -/
end
end L2

namespace L2
open PySem PySem.Spec PyProof.Rows

noncomputable def MtM (X : Cx) (id : String) (r : V → List V → Hp → VK → Prop) : Prop :=
  ∀ (pins : List (Addr × Obj)) (s : Shared) (σ : St) (H : Hp) (x : V) (xs : List V) (v : Value) (us : List Value) (Q : VK), Inv X pins σ H s → RelV x v → Vals xs us → r x xs H Q →
    wpAny (model X.prog X.w) X.A (call (.builtin id) (v :: us)) (EP X pins σ Q) X.xe s

/-! ### lists of values -/
theorem Vals.one : ∀ {x : V} {us : List Value}, Vals [x] us → ∃ u, us = [u] ∧ RelV x u
  | _, _, .cons r .nil => ⟨_, rfl, r⟩
theorem Vals.two : ∀ {x y : V} {us : List Value}, Vals [x, y] us → ∃ u v, us = [u, v] ∧ RelV x u ∧ RelV y v
  | _, _, _, .cons r (.cons q .nil) => ⟨_, _, rfl, r, q⟩
theorem Vals.zero : ∀ {us : List Value}, Vals [] us → us = []
  | _, .nil => rfl
theorem Vals.dropLast {xs : List V} {us : List Value} (h : Vals xs us) : Vals xs.dropLast us.dropLast := by
  induction h with
  | nil => exact .nil
  | cons r t ih =>
    cases t with
    | nil => exact .nil
    | cons q t' => exact .cons r ih
theorem Vals.rep {xs : List V} {us : List Value} (h : Vals xs us) : ∀ k : Nat, Vals (List.replicate k xs).flatten (List.replicate k us).flatten
  | 0 => .nil
  | k + 1 => by
    rw [List.replicate_succ, List.replicate_succ, List.flatten_cons, List.flatten_cons]
    exact Vals.append h (Vals.rep h k)
theorem erase_last {α : Type} (l : List α) : l.eraseIdx (l.length - 1) = l.dropLast := by
  induction l with
  | nil => rfl
  | cons a r ih =>
    cases r with
    | nil => rfl
    | cons b r =>
      have e : (a :: b :: r).length - 1 = ((b :: r).length - 1) + 1 := by
        have h1 : (a :: b :: r).length = r.length + 2 := rfl
        have h2 : (b :: r).length = r.length + 1 := rfl
        omega
      rw [e, List.eraseIdx_cons_succ, ih]
      all_goals rfl
theorem foldl_rep (its : List Value) : ∀ (k : Nat) (acc : List Value),
    List.foldl (fun x1 x2 => x1 ++ x2) acc.toArray (List.replicate k its.toArray) = (acc ++ (List.replicate k its).flatten).toArray
  | 0, acc => by simp
  | k + 1, acc => by
    have e : acc.toArray ++ its.toArray = (acc ++ its).toArray := by simp
    have e2 : (acc ++ its) ++ (List.replicate k its).flatten = acc ++ (List.replicate (k + 1) its).flatten := by
      rw [List.replicate_succ, List.flatten_cons, List.append_assoc]
    rw [← e2, ← foldl_rep its k (acc ++ its), ← e, List.replicate_succ, List.foldl_cons]

section
variable {X : Cx} {pins : List (Addr × Obj)} {σ : St} {H : Hp} {s : Shared} {l b : Addr} {xs ys zs : List V}

/-! ### the two steps: a tracked list is rewritten, a new list is laid -/
theorem Inv.lset {its its' : List Value} {n : Nat} {f : Array Value → Array Value} {t' : Nat} (I : Inv X pins σ H s) (hH : H l = some (.lst xs))
    (e : s.heap.get? l = some { cls := .type "list", data := .seq its.toArray n }) (hf : f its.toArray = its'.toArray) (hv : Vals ys its') (hz : ys.length ≤ sizeLine) :
    Inv X pins σ (upd H l (.lst ys)) { s with heap := s.heap.update l (Obj.mapSeq f), toks := t' } := by
  have q := PySem.IsL.update e f
  rw [hf] at q
  refine I.write (x := l) (e := l) (by rw [hH]; exact trivial) (.inl rfl) (fun b' u hb hu => (Heap.get?_update_other s.heap (Obj.mapSeq f) (Ne.symm hb)).trans hu) ⟨_, q⟩ ?_
  exact ⟨hz, its', _, hv, q⟩
theorem Inv.lnew {its : List Value} {t' : Nat} (I : Inv X pins σ H s) (hv : Vals ys its) (hz : ys.length ≤ sizeLine) :
    Inv X pins σ (upd H s.heap.objs.size (.lst ys)) { s with heap := s.heap.push { cls := .type "list", data := .seq its.toArray }, toks := t' } :=
  I.laid (fun _ _ q => Heap.get?_push_of_some _ q) (Nat.le_refl _) ⟨hz, its, 0, hv, Heap.get?_push_size _ rfl⟩
theorem Inv.fresh (I : Inv X pins σ H s) : H s.heap.objs.size = none := I.hok.fresh (Nat.le_refl _)
theorem Inv.lstM (I : Inv X pins σ H s) (hH : H l = some (.lst xs)) : xs.length ≤ sizeLine ∧ ∃ (its : List Value) (n : Nat), Vals xs its ∧ xs.length = its.length ∧ s.heap.get? l = some { cls := .type "list", data := .seq its.toArray n } := by
  obtain ⟨z, its, n, r, e⟩ := I.hok l _ hH
  exact ⟨z, its, n, r, r.length, e⟩

theorem notLongL {n : Nat} (h : n ≤ sizeLine) : Builtin.List.listTooLong n = false := by
  unfold Builtin.List.listTooLong
  exact decide_eq_false (by omega)
end

section
variable {X : Cx}

/-! ### methods -/
noncomputable def rAppend : V → List V → Hp → VK → Prop := fun x vs H Q => ∃ l xs y, x = .ref l ∧ vs = [y] ∧ H l = some (.lst xs) ∧ xs.length < sizeLine ∧ Q .non (upd H l (.lst (xs ++ [y])))
theorem mt_append : MtM X "list.append" rAppend := by
  intro pins s σ H x vs v us Q I rx rv h
  obtain ⟨l, xs, y, rfl, rfl, hH, hz, q⟩ := h
  cases rx
  obtain ⟨u, rfl, ru⟩ := rv.one
  obtain ⟨z, its, n, r, hl, e⟩ := I.lstM hH
  refine call_meets F.slot_list_append ⟨_, e, rfl⟩ F.entry_list_append (F.args_list_append_2 _ _) (PySem.list_append l its.toArray n u (by rw [List.size_toArray]; omega)) ⟨e, ?_⟩
  refine ⟨.non, _, I.lset (its' := its ++ [u]) hH e (by simp) (r.append (.cons ru .nil)) ?_, rfl, q⟩
  rw [List.length_append, List.length_singleton]
  omega


noncomputable def rPop : V → List V → Hp → VK → Prop := fun x vs H Q => ∃ l xs y, x = .ref l ∧ vs = [] ∧ H l = some (.lst xs) ∧ xs[xs.length - 1]? = some y ∧ Q y (upd H l (.lst xs.dropLast))
theorem mt_pop : MtM X "list.pop" rPop := by
  intro pins s σ H x vs v us Q I rx rv h
  obtain ⟨l, xs, y, rfl, rfl, hH, hy, q⟩ := h
  cases rx
  have hus := rv.zero
  subst hus
  obtain ⟨z, its, n, r, hl, e⟩ := I.lstM hH
  obtain ⟨u, hu, ru⟩ := r.get hy
  have hy' : its.toArray[its.toArray.size - 1]? = some u := by
    show its.toArray[its.length - 1]? = some u
    rw [← Array.getElem?_toList, ← hl]
    exact hu
  refine call_meets F.slot_list_pop ⟨_, e, rfl⟩ F.entry_list_pop (F.args_list_pop_1 _) (MeetsSeq.list_pop_last l its.toArray n u hy' (by rw [List.size_toArray]; omega)) ⟨e, ?_⟩
  refine ⟨y, _, I.lset (its' := its.dropLast) hH e ?_ r.dropLast ?_, ru, q⟩
  · show its.toArray.eraseIdxIfInBounds (its.toArray.size - 1) = its.dropLast.toArray
    rw [List.size_toArray, List.eraseIdxIfInBounds_toArray, erase_last]
  · rw [List.length_dropLast]
    omega




/-! ### list + list, list += list, list * int -/
noncomputable def rCat : R2 := fun x y H Q => ∃ l b xs zs, x = .ref l ∧ y = .ref b ∧ H l = some (.lst xs) ∧ H b = some (.lst zs) ∧ xs.length + zs.length ≤ sizeLine ∧ ∀ p, H p = none → Q (.ref p) (upd H p (.lst (xs ++ zs)))
theorem op_cat : OpR X (binaryOp .Add) rCat := by
  intro pins s σ H x y v u Q I rx ry h
  obtain ⟨l, b, xs, zs, rfl, rfl, hH, hB, hz, q⟩ := h
  cases rx
  cases ry
  obtain ⟨z, its, n, r, hl, e⟩ := I.lstM hH
  obtain ⟨z2, its2, n2, r2, hl2, e2⟩ := I.lstM hB
  refine PySem.P.add_list e e2 ?_ (by rw [List.size_toArray, List.size_toArray]; omega)
  have ea : its.toArray ++ its2.toArray = (its ++ its2).toArray := by simp
  rw [ea]
  exact ⟨.ref _, _, I.lnew (t' := s.toks) (r.append r2) (by rw [List.length_append]; omega), rfl, q _ I.fresh⟩
/-- a list times an int (a negative one is nothing) -/
noncomputable def rRep : R2 := fun x y H Q => ∃ l k xs, x = .ref l ∧ y = .int k ∧ H l = some (.lst xs) ∧ -(2 ^ 63) ≤ k ∧ k < 2 ^ 63 ∧ xs.length * k.toNat ≤ sizeLine ∧
  ∀ p, H p = none → Q (.ref p) (upd H p (.lst (List.replicate k.toNat xs).flatten))
theorem len_rep {α : Type} (xs : List α) (k : Nat) : (List.replicate k xs).flatten.length = k * xs.length := by
  induction k with
  | zero => simp
  | succ k ih => rw [List.replicate_succ, List.flatten_cons, List.length_append, ih, Nat.succ_mul, Nat.add_comm]
theorem op_rep : OpR X (binaryOp .Mult) rRep := by
  intro pins s σ H x y v u Q I rx ry h
  obtain ⟨l, k, xs, rfl, rfl, hH, h1, h2, hz, q⟩ := h
  cases rx
  obtain ⟨t, rfl⟩ := ry
  obtain ⟨z, its, n, r, hl, e⟩ := I.lstM hH
  have hlen : its.toArray.size * k.toNat ≤ sizeLine := by rw [List.size_toArray, ← hl]; exact hz
  have hcap : ¬ its.toArray.size * k.toNat > (2 ^ 63 - 1) / 8 := by
    have : (sizeLine : Nat) ≤ (2 ^ 63 - 1) / 8 := by decide
    omega
  have hfit : ¬ (!Builtin.List.listFitsIndex k) = true := by
    rw [fitsIndex_both h1 h2]
    exact Bool.false_ne_true
  have hlong : ¬ Builtin.List.listTooLong (its.toArray.size * k.toNat) = true := by
    rw [notLongL hlen]
    exact Bool.false_ne_true
  have hnew : List.foldl (fun x1 x2 => x1 ++ x2) #[] (List.replicate (if its.toArray.isEmpty = true then 0 else k.toNat) its.toArray) = (List.replicate k.toNat its).flatten.toArray := by
    have f0 : ∀ m : Nat, List.foldl (fun x1 x2 => x1 ++ x2) #[] (List.replicate m its.toArray) = (List.replicate m its).flatten.toArray := fun m => by
      have := foldl_rep its m []
      rw [List.nil_append] at this
      exact this
    rw [f0]
    cases its with
    | nil => simp
    | cons a r' => rw [if_neg (by simp)]
  refine wpAny_binaryOp_repeat_ref (T := "list") (U := "int") (by decide) ⟨_, e, rfl⟩ (fun s' => typeIs_int s' k t) noFill_list_mul F.fills_int_mul F.slot_int_rmul repeat_list F.slot_int_index.lookup
    (call_meets F.slot_int_rmul (typeIs_int s k t) F.entry_int_rmul (F.args_int_rmul_2 _ _) (int___rmul___int_list k t l its.toArray n)
      ⟨e, rfl, ⟨_, e, rfl⟩, call_meets F.slot_list_mul ⟨_, e, rfl⟩ F.entry_list_mul (F.args_list_mul_2 _ _) (AutoListH.list___mul___list_int_3 l its.toArray n k t hfit hcap hlong) ⟨e, ?_⟩⟩)
  rw [hnew]
  exact ⟨.ref _, _, I.lnew (t' := s.toks) (r.rep k.toNat) (by rw [len_rep, Nat.mul_comm]; exact hz), rfl, q _ I.fresh⟩

/-! ### del xs[i] -/
end

/-! ### xs[a:b] = ys -/
section
variable {prog : Program} {w : World} {A : Around} {E : Value → Shared → Prop} {s : Shared}
end

section
variable {X : Cx}
end
end L2

namespace L2
open PySem PySem.Spec PyProof.Rows

/-! ### lists of pairs as tables -/
section
variable {κ : Type} [DecidableEq κ]
noncomputable def valV (kvs : List (κ × V)) (k : κ) : Option V := (kvs.find? fun kv => decide (kv.1 = k)).map (·.2)
/-- in its place, or at the end -/
noncomputable def putK (kvs : List (κ × V)) (k : κ) (v : V) : List (κ × V) :=
  if (kvs.any fun kv => decide (kv.1 = k)) = true then kvs.map (fun kv => if kv.1 = k then (kv.1, v) else kv) else kvs ++ [(k, v)]

theorem valV_pos {p : κ × V} {r : List (κ × V)} {k : κ} (e : p.1 = k) : valV (p :: r) k = some p.2 := by simp [valV, List.find?_cons, e]
theorem valV_neg {p : κ × V} {r : List (κ × V)} {k : κ} (e : ¬ p.1 = k) : valV (p :: r) k = valV r k := by simp [valV, List.find?_cons, e]
theorem valV_any (k : κ) : ∀ kvs : List (κ × V), (kvs.any fun kv => decide (kv.1 = k)) = (valV kvs k).isSome
  | [] => rfl
  | p :: r => by
    rw [List.any_cons]
    by_cases e : p.1 = k
    · simp only [valV_pos e, decide_eq_true e, Bool.true_or, Option.isSome_some]
    · rw [valV_neg e, decide_eq_false e, Bool.false_or]; exact valV_any k r
theorem length_putK (kvs : List (κ × V)) (k : κ) (v : V) : (putK kvs k v).length ≤ kvs.length + 1 := by
  unfold putK
  split
  · rw [List.length_map]; omega
  · rw [List.length_append, List.length_cons, List.length_nil]; omega

theorem RelO.isSome_eq {o : Option V} {u : Option Value} (r : RelO o u) : o.isSome = u.isSome := by
  cases o with
  | none => cases u with
    | none => rfl
    | some _ => exact (show False from r).elim
  | some _ => cases u with
    | none => exact (show False from r).elim
    | some _ => rfl

/-- raw tables of the same keys -/
theorem KV.val {kvs : List (κ × V)} {vs : List (κ × Value)} (r : KV kvs vs) (k : κ) : RelO (valV kvs k) (valueAt vs k) := by
  unfold KV at r
  induction r with
  | nil => exact True.intro
  | @cons p q ps qs h t ih =>
    obtain ⟨h1, h2⟩ := h
    by_cases e : p.1 = k
    · have e' : q.1 = k := h1.symm.trans e
      have b : valueAt (q :: qs) k = some q.2 := by simp [valueAt, List.find?_cons, e']
      rw [valV_pos e, b]; exact h2
    · have e' : ¬ q.1 = k := fun z => e (h1.trans z)
      have b : valueAt (q :: qs) k = valueAt qs k := by simp [valueAt, List.find?_cons, e']
      rw [valV_neg e, b]; exact ih
theorem KV.any {kvs : List (κ × V)} {vs : List (κ × Value)} (r : KV kvs vs) (k : κ) : (kvs.any fun kv => decide (kv.1 = k)) = vs.any fun kv => decide (kv.1 = k) := by
  unfold KV at r
  induction r with
  | nil => rfl
  | cons h t ih => rw [List.any_cons, List.any_cons, ih, h.1]
theorem KV.repl {kvs : List (κ × V)} {vs : List (κ × Value)} (r : KV kvs vs) (k : κ) {y : V} {u : Value} (ry : RelV y u) :
    KV (kvs.map fun kv => if kv.1 = k then (kv.1, y) else kv) (vs.map fun kv => if kv.1 = k then (kv.1, u) else kv) := by
  unfold KV at r ⊢
  induction r with
  | nil => exact .nil
  | @cons p q ps qs h t ih =>
    rw [List.map_cons, List.map_cons]
    refine .cons ?_ ih
    obtain ⟨h1, h2⟩ := h
    by_cases e : p.1 = k
    · rw [if_pos e, if_pos (h1.symm.trans e)]; exact ⟨h1, ry⟩
    · rw [if_neg e, if_neg (fun z => e (h1.trans z))]; exact ⟨h1, h2⟩
theorem KV.put {kvs : List (κ × V)} {vs : List (κ × Value)} (r : KV kvs vs) (k : κ) {y : V} {u : Value} (ry : RelV y u) : KV (putK kvs k y) (stored vs k u) := by
  unfold putK stored
  rw [r.any k]
  by_cases e : (vs.any fun kv => decide (kv.1 = k)) = true
  · rw [if_pos e, if_pos e]; exact r.repl k ry
  · rw [if_neg e, if_neg e]; exact Paired.snoc r ⟨rfl, ry⟩
theorem KV.length {kvs : List (κ × V)} {vs : List (κ × Value)} (r : KV kvs vs) : kvs.length = vs.length := Paired.length r
end


/-! ### a tracked dict, its keys ints and texts or tuples of these -/
theorem kV_is {P : Program} {w : World} {k : Key} {u : Value} (r : RelV (kV k) u) : (mixKind P w).is k u = true := by
  cases k with
  | inl i => obtain ⟨t, e⟩ := (show ∃ t, u = Value.int i t from r); subst e; exact mixKind_int P w i t
  | inr x => obtain ⟨t, e⟩ := (show ∃ t, u = Value.str x t from r); subst e; exact mixKind_str P w x t
theorem items_are {P : Program} {w : World} : ∀ {ks : List Key} {us : List Value}, Vals (ks.map kV) us → ItemsAre (mixKind P w) ks us
  | [], _, r => by rw [List.map_nil] at r; cases r; exact .nil
  | k :: ks, _, r => by
    rw [List.map_cons] at r
    cases r with
    | cons h t => exact .cons (kV_is h) (items_are t)

/-- raw entries of a dict with tuple keys -/
noncomputable abbrev KT (H : Hp) : List (List Key × V) → List (List Key × Addr × Value) → Prop := Paired fun p q => p.1 = q.1 ∧ H q.2.1 = some (.tup (p.1.map kV)) ∧ RelV p.2 q.2.2
theorem KT.val {H : Hp} {kvs : List (List Key × V)} {xs : List (List Key × Addr × Value)} (r : KT H kvs xs) (k : List Key) : RelO (valV kvs k) ((atKey xs k).map (·.2)) := by
  induction r with
  | nil => exact True.intro
  | @cons p q ps qs h t ih =>
    obtain ⟨h1, _, h2⟩ := h
    by_cases e : p.1 = k
    · have e' : q.1 = k := h1.symm.trans e
      have b : atKey (q :: qs) k = some q.2 := by simp [atKey, List.find?_cons, e']
      rw [valV_pos e, b]; exact h2
    · have e' : ¬ q.1 = k := fun z => e (h1.trans z)
      have b : atKey (q :: qs) k = atKey qs k := by simp [atKey, List.find?_cons, e']
      rw [valV_neg e, b]; exact ih
theorem KT.repl {H : Hp} {kvs : List (List Key × V)} {xs : List (List Key × Addr × Value)} (r : KT H kvs xs) (k : List Key) {y : V} {u : Value} (ry : RelV y u) :
    KT H (kvs.map fun kv => if kv.1 = k then (kv.1, y) else kv) (xs.map (putAt k u)) := by
  induction r with
  | nil => exact .nil
  | @cons p q ps qs h t ih =>
    rw [List.map_cons, List.map_cons]
    refine .cons ?_ ih
    obtain ⟨h1, h2, h3⟩ := h
    unfold putAt
    by_cases e : p.1 = k
    · rw [if_pos e, if_pos (h1.symm.trans e)]; exact ⟨h1, h2, ry⟩
    · rw [if_neg e, if_neg (fun z => e (h1.trans z))]; exact ⟨h1, h2, h3⟩
theorem KT.put {H : Hp} {kvs : List (List Key × V)} {xs : List (List Key × Addr × Value)} (r : KT H kvs xs) (k : List Key) {b : Addr} {y : V} {u : Value} (hb : H b = some (.tup (k.map kV))) (ry : RelV y u) :
    KT H (putK kvs k y) (storedH xs k b u) := by
  have e : (kvs.any fun kv => decide (kv.1 = k)) = (atKey xs k).isSome := by
    rw [valV_any, (r.val k).isSome_eq, Option.isSome_map]
  unfold putK storedH
  rw [e]
  by_cases q : (atKey xs k).isSome = true
  · rw [if_pos q, if_pos q]; exact r.repl k ry
  · rw [if_neg q, if_neg q]; exact Paired.snoc r ⟨rfl, hb, ry⟩
theorem KT.keeps {H H' : Hp} {kvs : List (List Key × V)} {xs : List (List Key × Addr × Value)} (r : KT H kvs xs) (ht : ∀ b ys, H b = some (.tup ys) → H' b = some (.tup ys)) : KT H' kvs xs :=
  Paired.mapP r fun _ _ z => ⟨z.1, ht _ _ z.2.1, z.2.2⟩

section
variable {P : Program} {w : World} {H : Hp} {h : Heap} {a : Addr}
theorem rd_of {u : HO} (ok : HOk P w H h) (e : Rd H a u) : ObjOk P w H h a u := e.ok ok
theorem dk_rd {kvs : List (Key × V)} (ok : HOk P w H h) (e : Rd H a (.dK kvs)) : kvs.length ≤ sizeLine ∧ (a == sysModules) = false ∧ ∃ vs, KV kvs vs ∧ h.DictOf (mixKind P w) a vs :=
  show ObjOk P w H h a (.dK kvs) from rd_of ok e
theorem dk_of {kvs : List (Key × V)} (ok : HOk P w H h) (e : H a = some (.dK kvs)) : kvs.length ≤ sizeLine ∧ (a == sysModules) = false ∧ ∃ vs, KV kvs vs ∧ h.DictOf (mixKind P w) a vs := dk_rd ok (.inl e)
/-- a tracked tuple of ints and texts is a key -/
theorem key_of {ks : List Key} (ok : HOk P w H h) (e : H a = some (.tup (ks.map kV))) : (tupleKind (mixKind P w)).is h ks a := by
  obtain ⟨_, its, r, o, h1, h2, n, h3⟩ := (show ObjOk P w H h a (.tup (ks.map kV)) from ok a _ e)
  exact ⟨o, its.toArray, n, h1, h2, h3, by simpa using items_are r⟩
theorem dt_rd {kvs : List (List Key × V)} (ok : HOk P w H h) (e : Rd H a (.dT kvs)) : kvs.length ≤ sizeLine ∧ (a == sysModules) = false ∧
    ∃ xs, KT H kvs xs ∧ h.DictOfH (tupleKind (mixKind P w)) a xs := by
  obtain ⟨z, y, xs, r, o, es, ep, h1, h2, h3, h4, h5⟩ := (show ObjOk P w H h a (.dT kvs) from rd_of ok e)
  refine ⟨z, y, xs, r, o, es, ep, h1, h2, h3, h4, fun x hx => ?_, h5⟩
  have all : ∀ {l : List (List Key × V)} {m : List (List Key × Addr × Value)}, KT H l m → ∀ x ∈ m, (tupleKind (mixKind P w)).is h x.1 x.2.1 := by
    intro l m q
    induction q with
    | nil => intro x hx; exact nomatch hx
    | @cons p q ps qs hq t ih =>
      intro x hx
      rcases List.mem_cons.mp hx with e | hx
      · subst e
        exact key_of ok (by rw [← hq.1]; exact hq.2.1)
      · exact ih x hx
  exact all r x hx
theorem dt_of {kvs : List (List Key × V)} (ok : HOk P w H h) (e : H a = some (.dT kvs)) : kvs.length ≤ sizeLine ∧ (a == sysModules) = false ∧
    ∃ xs, KT H kvs xs ∧ h.DictOfH (tupleKind (mixKind P w)) a xs := dt_rd ok (.inl e)
end

/-- what the dict at a holds at the key y -/
noncomputable def DGet (H : Hp) (a : Addr) (y : V) (r : Option V) : Prop :=
  (∃ kvs k, Rd H a (.dK kvs) ∧ y = kV k ∧ r = valV kvs k) ∨ ∃ kvs k b, Rd H a (.dT kvs) ∧ y = .ref b ∧ H b = some (.tup (k.map kV)) ∧ r = valV kvs k
/-- the heap behind a[y] = v -/
noncomputable def DPut (H : Hp) (a : Addr) (y v : V) (H' : Hp) : Prop :=
  (∃ kvs k, H a = some (.dK kvs) ∧ y = kV k ∧ kvs.length < sizeLine ∧ H' = upd H a (.dK (putK kvs k v))) ∨
  ∃ kvs k b, H a = some (.dT kvs) ∧ y = .ref b ∧ H b = some (.tup (k.map kV)) ∧ kvs.length < sizeLine ∧ H' = upd H a (.dT (putK kvs k v))


section
variable {X : Cx} {pins : List (Addr × Obj)} {σ : St} {H : Hp} {s : Shared} {a : Addr} {y v : V} {u r : Value} {o : Option V} {A : Around} {E : Value → Shared → Prop}

theorem Inv.big (I : Inv X pins σ H s) : sysModules < s.heap.objs.size := by
  have h : mainGlobals < s.heap.objs.size := (I.mod.glob.keeps I.bk).lt
  exact Nat.lt_trans (by decide) h

/-- y in d -/
theorem d_in {Q : Value → Shared → Prop} (hu : A.units + 1 < cLine) (I : Inv X pins σ H s) (g : DGet H a y o) (ry : RelV y u) (h : ∀ s', Inv X pins σ H s' → Q (.bool o.isSome) s') :
    wpAny (model X.prog X.w) A (compareOp .In u (.ref a)) Q E s := by
  rcases g with ⟨kvs, k, e, ey, l⟩ | ⟨kvs, k, b, e, ey, eb, l⟩
  · subst ey
    obtain ⟨z, hd, vs, rel, dd⟩ := dk_rd I.hok e
    refine wpAny_in_of (kV_is ry) hd dd.mapOf ?_
    rw [← (rel.val k).isSome_eq, ← l]
    exact h _ (I.tok _)
  · subst ey
    cases (show u = Value.ref b from ry)
    obtain ⟨z, hd, xs, rel, dd⟩ := dt_rd I.hok e
    refine wpAny_in_heap (tupleKind_room_in1 hu) (key_of I.hok eb) hd dd ?_
    have q := (rel.val k).isSome_eq
    rw [Option.isSome_map] at q
    rw [← q, ← l]
    exact h _ (I.tok _)
/-- a dict's object is replaced -/
theorem d_write {h' : Heap} {t' : Nat} {ob : HO} (I : Inv X pins σ H s) (mu : Mut (H a)) (hs : Heap.SameBut a s.heap h') (he : ∃ q, h'.get? a = some q) (new : ObjOk X.prog X.w (upd H a ob) h' a ob) :
    Inv X pins σ (upd H a ob) { s with heap := h', toks := t' } :=
  I.write (x := a) (e := a) mu (.inl rfl) (fun b q hb z => (hs.2 b hb).trans z) he new
theorem dk_new {P : Program} {w : World} {H' : Hp} {h' : Heap} {kvs : List (Key × V)} {vs : List (Key × Value)} (z : kvs.length ≤ sizeLine) (hd : (a == sysModules) = false) (rel : KV kvs vs) (dd : h'.DictOf (mixKind P w) a vs) :
    ObjOk P w H' h' a (.dK kvs) := ⟨z, hd, vs, rel, dd⟩
/-- d[y] = v -/
theorem d_setItem {H' : Hp} {Q : Unit → Shared → Prop} (hu : A.units + 1 < cLine) (I : Inv X pins σ H s) (g : DPut H a y v H') (ry : RelV y u) (rv : RelV v r) (h : ∀ s', Inv X pins σ H' s' → Q () s') :
    wpAny (model X.prog X.w) A (setItem (.ref a) u r) Q E s := by
  rcases g with ⟨kvs, k, e, ey, l, eH⟩ | ⟨kvs, k, b, e, ey, eb, l, eH⟩
  · subst ey eH
    obtain ⟨z, hd, vs, rel, dd⟩ := dk_of I.hok e
    have hz : vs.length ≤ sizeLine := by rw [← rel.length]; exact z
    have hl : (putK kvs k v).length ≤ sizeLine := by have := length_putK kvs k v; omega
    refine wpAny_setItem_pairs (hsz := hz) (kV_is ry) dd fun h' dd' hs => h _ ?_
    have he : ∃ q, h'.get? a = some q := let ⟨q, _, _, hq, _⟩ := dd'; ⟨q, hq⟩
    exact d_write I (by rw [e]; exact True.intro) hs he (dk_new hl hd (rel.put k rv) dd')
  · subst ey eH
    cases (show u = Value.ref b from ry)
    obtain ⟨z, hd, xs, rel, dd⟩ := dt_of I.hok e
    have hz : xs.length ≤ sizeLine := by rw [← Paired.length rel]; exact z
    have hl : (putK kvs k v).length ≤ sizeLine := by have := length_putK kvs k v; omega
    refine wpAny_setItem_heap (hsz := hz) (tupleKind_room_in1 hu) (key_of I.hok eb) dd fun h' dd' hs => h _ ?_
    obtain ⟨q, es, ep, hq, h2, h3, h4, _, h5⟩ := dd'
    refine d_write I (by rw [e]; exact True.intro) hs ⟨q, hq⟩ ⟨hl, hd, _, (rel.put k eb rv).keeps fun c ys ec => ?_, q, es, ep, hq, h2, h3, h4, h5⟩
    rw [upd_ne (ne_of ec e (fun z => nomatch z))]
    exact ec
end

section
variable {X : Cx} {pins : List (Addr × Obj)} {σ : St} {H : Hp} {s : Shared} {a : Addr} {kvs : List (Key × V)} {k : Key} {u : Value} {A : Around} {E : Value → Shared → Prop}
end


/-! ### readings and rules -/


/-- y in d, y not in d -/
noncomputable def tDIn (ty td : TE) : TE := fun σ H Q => ty σ H fun y H1 => td σ H1 fun x H2 => ∃ a o, x = .ref a ∧ DGet H2 a y o ∧ Q (.bl o.isSome) H2
/-- d[y] = v -/
noncomputable def sDPut (td ty tv : TE) : TS := fun D σ H => tv σ H fun v H1 => td σ H1 fun x H2 => ty σ H2 fun y H3 => ∃ a H4, x = .ref a ∧ DPut H3 a y v H4 ∧ D.nx σ H4

section
variable {X : Cx} {o i e value : Expr} {pos pos' tpos : Pos} {td ty tv : TE}
theorem pc_din (hu : X.A.units + 1 < cLine) (hi : PE X i ty) (ho : PE X o td) : PC X .In i o (tDIn ty td) := by
  intro pins s σ H Q I h
  refine thn (hi pins s σ H _ I h) fun iv s1 ⟨y, H1, I1, ry, q1⟩ => thn (ho pins s1 σ H1 _ I1 q1) fun u s2 ⟨x, H2, I2, rx, a, ov, ex, g, q2⟩ => ?_
  subst ex
  obtain rfl : u = Value.ref a := rx
  exact d_in hu I2 g ry fun s3 I3 => ⟨.bl ov.isSome, H2, I3, rfl, q2⟩
theorem ps_dput (hu : X.A.units + 1 < cLine) (ho : PE X o td) (hi : PE X i ty) (hv : PE X value tv) (hs : swapsWith value (some (.Subscript o i pos')) pos.line X.env = pure false) :
    PS X (.Assign [.Subscript o i pos'] value pos) (sDPut td ty tv) := by
  intro pins s σ H D I h
  refine wpAny_Assign_Subscript (thn (hv pins s σ H _ I h) fun r s1 ⟨v, H1, I1, rv, q1⟩ => thn (ho pins s1 σ H1 _ I1 q1) fun u s2 ⟨x, H2, I2, rx, q2⟩ => thn (hi pins s2 σ H2 _ I2 q2) fun iv s3 ⟨y, H3, I3, ry, a, H4, ex, g, q3⟩ => ?_) hs
  subst ex
  obtain rfl : u = Value.ref a := rx
  exact d_setItem hu I3 g ry rv fun s4 I4 => ⟨σ, H4, I4, q3⟩
end


/-! ### displays -/
theorem dk_empty {P : Program} {w : World} {H : Hp} (h : Heap) (hb : sysModules < h.objs.size) : ObjOk P w H (h.push { cls := .type "dict", data := .dict #[] }) h.objs.size (.dK []) :=
  ⟨Nat.zero_le _, beq_eq_false_iff_ne.mpr (Ne.symm (Nat.ne_of_lt hb)), [], .nil, Heap.DictOf.new h⟩
/-- {}, to be a dict of the kind that is wanted -/
noncomputable def tDNewK : TE := fun _ H Q => ∀ p, H p = none → Q (.ref p) (upd H p (.dK []))
section
variable {X : Cx} {pos : Pos}
theorem pe_dnewK : PE X (.Dict [] [] pos) tDNewK := fun pins s σ H Q I h =>
  wpAny_Dict_empty ⟨.ref s.heap.objs.size, _, I.laid (a := s.heap.objs.size) (o := .dK []) (t' := s.toks) (fun _ _ q => Heap.get?_push_of_some _ q) (Nat.le_refl _) (dk_empty s.heap I.big), rfl, h _ (I.hok.fresh (Nat.le_refl _))⟩
end

/-- the pairs of a display, from the left -/
noncomputable def tPairs : List (TE × TE) → St → Hp → (List (V × V) → Hp → Prop) → Prop
  | [], _, H, Q => Q [] H
  | (tk, tv) :: r, σ, H, Q => tk σ H fun x H1 => tv σ H1 fun y H2 => tPairs r σ H2 fun ps H3 => Q ((x, y) :: ps) H3
noncomputable abbrev VV : List (V × V) → List (Value × Value) → Prop := Paired fun p q => RelV p.1 q.1 ∧ RelV p.2 q.2
noncomputable def PPs (X : Cx) (pos : Pos) (keys : List (Option Expr)) (values : List Expr) (trs : List (TE × TE)) : Prop :=
  ∀ (pins : List (Addr × Obj)) (s : Shared) (σ : St) (H : Hp) (Q : List (V × V) → Hp → Prop), Inv X pins σ H s → tPairs trs σ H Q →
    wpAny (model X.prog X.w) X.A (evalPairs (pairTrees keys values X.env pos)) (fun vs s' => ∃ ps H', Inv X pins σ H' s' ∧ VV ps vs ∧ Q ps H') X.xe s
theorem pps_nil {X : Cx} {pos : Pos} : PPs X pos [] [] [] := fun pins s σ H Q I h => pairTrees_nil_walk ⟨[], H, I, .nil, h⟩
theorem pps_cons {X : Cx} {pos : Pos} {k v : Expr} {ks : List (Option Expr)} {vs : List Expr} {tk tv : TE} {trs : List (TE × TE)} (hk : PE X k tk) (hv : PE X v tv) (hr : PPs X pos ks vs trs) :
    PPs X pos (some k :: ks) (v :: vs) ((tk, tv) :: trs) := fun pins s σ H Q I h =>
  pairTrees_cons_walk (thn (hk pins s σ H _ I h) fun u s1 ⟨x, H1, I1, rx, q1⟩ => thn (hv pins s1 σ H1 _ I1 q1) fun w2 s2 ⟨y, H2, I2, ry, q2⟩ =>
    thn (hr pins s2 σ H2 _ I2 q2) fun ws s3 ⟨ps, H3, I3, rel, q3⟩ => ⟨(x, y) :: ps, H3, I3, .cons ⟨rx, ry⟩ rel, q3⟩)

noncomputable def mergeK (kvs more : List (Key × V)) : List (Key × V) := more.foldl (fun acc kv => putK acc kv.1 kv.2) kvs
theorem KV.merge : ∀ {more : List (Key × V)} {rs : List (Key × Value)} {kvs : List (Key × V)} {vs : List (Key × Value)}, KV more rs → KV kvs vs → KV (mergeK kvs more) (merged vs rs) := by
  intro more rs kvs vs r
  unfold KV at r
  induction r generalizing kvs vs with
  | nil => intro q; exact q
  | @cons p q ps qs h t ih =>
    intro r0
    have e : KV (putK kvs p.1 p.2) (stored vs q.1 q.2) := by
      have := r0.put p.1 h.2
      rw [← h.1]; exact this
    exact ih e
theorem length_mergeK : ∀ (more kvs : List (Key × V)), (mergeK kvs more).length ≤ kvs.length + more.length
  | [], kvs => by show kvs.length ≤ kvs.length + 0; omega
  | p :: r, kvs => by
    have h1 := length_mergeK r (putK kvs p.1 p.2)
    have h2 := length_putK kvs p.1 p.2
    show (mergeK (putK kvs p.1 p.2) r).length ≤ _
    rw [List.length_cons]; omega
theorem carries_of {P : Program} {w : World} : ∀ {kvs : List (Key × V)} {ws : List (Value × Value)}, VV (kvs.map fun kv => (kV kv.1, kv.2)) ws → ∃ rs, Carries (mixKind P w) ws rs ∧ KV kvs rs
  | [], _, r => by rw [List.map_nil] at r; cases r; exact ⟨[], True.intro, .nil⟩
  | p :: kvs, _, r => by
    rw [List.map_cons] at r
    cases r with
    | @cons a b as bs h t =>
      obtain ⟨rs, c, q⟩ := carries_of (P := P) (w := w) t
      obtain ⟨b1, b2⟩ := b
      exact ⟨(p.1, b2) :: rs, ⟨kV_is h.1, rfl, c⟩, .cons ⟨rfl, h.2⟩ q⟩
/-- {k: v, ..} with keys ints and texts; the new dict stands empty while the pairs are made -/
noncomputable def tDisp (trs : List (TE × TE)) : TE := fun σ H Q => ∀ p, H p = none → tPairs trs σ (upd H p (.dK [])) fun ps H2 => H2 p = some (.dK []) ∧ ∃ kvs : List (Key × V), ps = kvs.map (fun kv => (kV kv.1, kv.2)) ∧ kvs.length ≤ 15 ∧ Q (.ref p) (upd H2 p (.dK (mergeK [] kvs)))
theorem pe_disp {X : Cx} {pos : Pos} {keys : List (Option Expr)} {values : List Expr} {trs : List (TE × TE)} (h : PPs X pos keys values trs) (hall : keys.all (·.isSome) = true) (hl : keys.length = values.length) (h0 : keys ≠ [])
    (h15 : keys.length ≤ 15) : PE X (.Dict keys values pos) (tDisp trs) := by
  intro pins s σ H Q I q
  have hn := I.hok.fresh (Nat.le_refl s.heap.objs.size)
  have I1 := I.laid (a := s.heap.objs.size) (o := .dK []) (h' := s.heap.push { cls := .type "dict", data := .dict #[] }) (t' := s.toks) (fun _ _ q => Heap.get?_push_of_some _ q) (Nat.le_refl _) (dk_empty s.heap I.big)
  refine wpAny_Dict_walk (knd := mixKind X.prog X.w) hall hl h0 h15 (thn (h pins _ σ _ _ I1 (q _ hn)) fun ws s2 ⟨ps, H2, I2, rel, e, kvs, ep, lk, q2⟩ => ?_)
  subst ep
  obtain ⟨rs, c, rk⟩ := carries_of (P := X.prog) (w := X.w) rel
  obtain ⟨z, hd, vs0, r0, dd⟩ := dk_of I2.hok e
  cases r0
  refine ⟨rs, c, dd, fun h' dd' hs => ⟨.ref s.heap.objs.size, _, ?_, rfl, q2⟩⟩
  have hz : (mergeK [] kvs).length ≤ sizeLine := by
    have h1 := length_mergeK kvs []
    rw [List.length_nil] at h1
    rw [sizeLine_eq]; omega
  have he : ∃ q, h'.get? s.heap.objs.size = some q := let ⟨q, _, _, hq, _⟩ := dd'; ⟨q, hq⟩
  exact d_write I2 (by rw [e]; exact True.intro) hs he (dk_new hz hd (rk.merge .nil) dd')


/-! ### methods -/

/-- a is a dict, whatever its keys -/
noncomputable def IsD (H : Hp) (a : Addr) : Prop := (∃ kvs, Rd H a (.dK kvs)) ∨ ∃ kvs, Rd H a (.dT kvs)
theorem isD_at {X : Cx} {pins : List (Addr × Obj)} {σ : St} {H : Hp} {s : Shared} {a : Addr} (I : Inv X pins σ H s) (d : IsD H a) :
    s.TypeIs (.ref a) "dict" ∧ (∀ b, Value.ref a = .ref b → ∃ ob, s.heap.get? b = some ob ∧ ob.dict = none) ∧ (a == sysModules) = false := by
  rcases d with ⟨kvs, e⟩ | ⟨kvs, e⟩
  · obtain ⟨_, hd, vs, _, dd⟩ := dk_rd I.hok e
    refine ⟨dd.typeIs, fun b q => ?_, hd⟩
    cases q
    obtain ⟨ob, _, _, h1, h2, _⟩ := dd
    exact ⟨ob, h1, h2.2.1⟩
  · obtain ⟨_, hd, xs, _, dd⟩ := dt_rd I.hok e
    refine ⟨dd.typeIs, fun b q => ?_, hd⟩
    cases q
    obtain ⟨ob, _, _, h1, h2, _⟩ := dd
    exact ⟨ob, h1, h2.2.1⟩

section
variable {X : Cx} {pins : List (Addr × Obj)} {σ : St} {H : Hp} {s : Shared} {a : Addr} {y d : V} {u r : Value} {o : Option V} {A : Around} {E : Value → Shared → Prop}
end

section
variable {X : Cx} {o e f : Expr} {apos cpos : Pos} {td ty tx : TE}
end

/-! ### dict(d): a copy -/
section
variable {X : Cx} {pins : List (Addr × Obj)} {σ : St} {H : Hp} {s : Shared} {a : Addr} {kvs : List (Key × V)} {A : Around} {E : Value → Shared → Prop}
end


section
variable {X : Cx} {pins : List (Addr × Obj)} {σ : St} {H : Hp} {s : Shared} {a : Addr} {y : V} {u : Value} {A : Around} {E : Value → Shared → Prop}
end
end L2

namespace Att
open PySem PySem.W PySem.Calls PyProof.Rows

/-! ### the script -/
theorem ints_of_wellAll {P : Params} {h : Heap} : ∀ (ns : List Int) (vs : List Value), WellAll P h vs (ns.map WData.int) → IntsAre vs ns := by
  intro ns
  induction ns with
  | nil =>
    intro vs w
    rw [List.map_nil] at w
    cases w
    exact .nil
  | cons n ns ih =>
    intro vs w
    rw [List.map_cons] at w
    cases w with
    | cons a b =>
      cases a
      exact .cons _ _ (ih _ b)

theorem script_of {l : OpenLaw} {n : Nat} (hn : l.most = some n) {P : Params} {h : Heap} {args : List WData} {vals : List Value}
    (hpre : l.row.toRowW.claim.pre args = true) (hwl : WellAll P h vals args) :
    ∃ a vs ns, vals = [Value.ref a] ∧ args = [WData.list (ns.map WData.int)] ∧ h.get? a = some { cls := .type "list", data := .seq vs.toArray } ∧ IntsAre vs ns ∧ ns.length ≤ n := by
  have hsh : WShape.hasAll [] args [.list .int] = true := (pre_splitW hpre).1
  have hc : l.pre.holds [] { args := args } = true := (pre_splitW hpre).2
  obtain ⟨d, r, rfl, h1, h2⟩ := hasAllW_cons hsh
  obtain rfl := hasAllW_nil h2
  obtain ⟨xs, rfl, h3⟩ := hasW_list h1
  obtain ⟨ns, rfl⟩ := items_int h3
  have hlen : ns.length ≤ n := by
    unfold OpenLaw.pre at hc
    have h4 : (WTm.not (.lt (.lit (.int (n : Int))) (.len (.arg 0)))).holds [] { args := [.list (ns.map .int)] } = true := by
      have h4 := (holds_andW hc).1
      rw [hn] at h4
      exact h4
    have h5 := condW_of h4 (w_not (w_lt w_lit (w_len_list (w_arg rfl))))
    rw [List.length_map] at h5
    refine Nat.le_of_not_lt fun q => ?_
    have q' : (n : Int) < ((ns.length : Nat) : Int) := by omega
    first
      | (rw [decide_eq_true q'] at h5; exact absurd h5 (by decide))
      | (simp at h5; omega)
  cases hwl with
  | cons w1 w2 =>
    cases w2
    cases w1 with
    | list ho hall => exact ⟨_, _, ns, rfl, rfl, ho, ints_of_wellAll ns _ hall, hlen⟩

theorem post_true (l : OpenLaw) (args : List WData) : l.row.toRowW.claim.post args (.bool true) args = true :=
  postW_of (r := l.row.toRowW) (X := (true == true))
    (show WShape.has [] (.bool true) .bool = true by first | rfl | decide | simp [WShape.has, WShape.arms, WShape.armsAll])
    (show (WTm.eq .res (.lit (.bool true))).value [] { args := args, res := some (.bool true), after := args } = some (.bool (true == true)) from w_eq_bool (w_res rfl) w_lit) rfl

/-! ### the attachment: holds_open's last premise (the goal 'hc' behind k_head) from a wpAny of the law's body -/

/-- the same from a codeAny of the CALL (for a layer whose function contracts speak of calls) -/
theorem attach_call {l : OpenLaw} {n : Nat} {q : Program} {loose : List Str} {XP : (Str → Option Value) → Heap → Prop} {YP : World → Heap → Prop} {d : DefRec}
    (hn : l.most = some n) (hdf : d.params.defaults = [])
    (call : ∀ (w : World) (s₀ s₁ : Shared) (mg mb : Str → Option Value) (fa : Addr) (o : Obj) (pm cd doc : Value) (a : Addr) (vs : List Value) (ns : List Int),
      Ground q loose [] XP w s₀ mg mb s₁.heap → YP w s₁.heap →
      s₁.heap.get? fa = some o → o.data = .func (docDef d.name d.params d.body d.scope pm cd doc) → s₁.heap.CodeRec cd d.name → mg d.name = some (.ref fa) →
      s₁.heap.get? a = some { cls := .type "list", data := .seq vs.toArray } → IntsAre vs ns → ns.length ≤ n → s₁.gens = #[] →
      codeAny (model l.prog w) callerA (.call (.ref fa) ⟨[.ref a], []⟩) (fun r s' => r = .ok (.ret (.bool true)) ∧ OldK s₁.heap s'.heap ∧ s'.os = s₁.os ∧ AllBare s'.gens) s₁) :
    WalkO q loose XP YP l.row.toRowW d [] (fun f vs => PySem.call f vs) := by
  intro w s₀ s₁ mg mb G Y fa o pm cd doc dV kV ho hd hcd hD hmg hg args vals as hpre hlay hrd hwl hlo
  obtain rfl : dV = .none := Dflts.none hD hdf
  obtain rfl : kV = .none := Dflts.noKw hD
  obtain ⟨a, vs, ns, rfl, rfl, hobj, hints, hlen⟩ := script_of hn hpre hwl
  refine enter_call (codeAny_mono (call w s₀ s₁ mg mb fa o pm cd doc a vs ns G Y ho (fd_plain hd) hcd hmg hobj hints hlen hg) fun r s' hq => ?_)
  obtain ⟨rfl, h2, h3, h4⟩ := hq
  exact ⟨.inl ⟨.bool true, .bool true, [], rfl, fun _ => rfl, .bool true, post_true l _, fun _ => ⟨List.Pairwise.nil, fun _ hm => (nomatch hm)⟩⟩, h2, h3, h4⟩


/-! ### rules over ANY heap (no ledger) from facts about the written part K: the library's own take a ledger (News) for what they write -/
section
variable {prog : Program} {w : World} {A : Around} {E : Value → Shared → Prop} {s : Shared} {K : Frag}





/-! the whole heap as the ledger: makes every rule that writes through a ledger a rule over any heap -/

end
end Att

namespace L2
open PySem PySem.Spec PyProof.Rows

theorem vals_ints : ∀ {vs : List Value} {ns : List Int}, IntsAre vs ns → Vals (ns.map V.int) vs
  | _, _, .nil => .nil
  | _, _, .cons n t h => .cons ⟨t, rfl⟩ (vals_ints h)

/-- nothing is tracked but the script, known to the object (or it is an object of the module) -/
noncomputable def Only (H : Hp) : Prop := ∀ b, H b = none ∨ ∃ o xs, H b = some (.frz o (.lst xs))

/-- THE HEAD: the law's promise, at the heap behind the top. F, the promise of the law's def, may use that base is part of the heap (so K.In base, base.Ns mainGlobals mg stand in Mod) -/
theorem law_call {P : Program} {w : World} {K : PySem.W.Frag} {mg mb : Str → Option Value} {CX : CXT} {k : Nat} {fa a : Addr} {fd : FuncData} {x : Str} {sp : Sp} {s₁ : Shared} {vs : List Value} {ns : List Int}
    (KX : K.In s₁.heap) (hns : s₁.heap.Ns mainGlobals mg) (hb : s₁.heap.Ns builtinsNs mb) (hbb : ∀ x : Str, x ≠ "__name__" → mb x = bootBuiltins x) (hlim : s₁.heap.NoLimit) (hg : s₁.gens = #[])
    (ha : s₁.heap.get? a = some { cls := .type "list", data := .seq vs.toArray }) (hi : IntsAre vs ns) (hl : ns.length ≤ sizeLine) (hr : Room k callerA)
    (F : ∀ base : Heap, K.In base → base.Ns mainGlobals mg → FnOk P w K mg base CX k fa fd [x] sp) (hbind : ∀ (s : Shared) (u : Value), BindsTo s fd ⟨[u], []⟩ [(x, u)])
    (hsp : ∀ H : Hp, Only H → SqL K H a (ns.map V.int) → sp [.ref a] H (fun v _ => v = .bl true) fun _ _ _ => False)
    (hCX : ∀ H e s', CX [] H s₁ (fun _ _ _ => False) e s' → False) :
    codeAny (model P w) callerA (.call (.ref fa) ⟨[.ref a], []⟩) (fun r s' => r = .ok (.ret (.bool true)) ∧ OldK s₁.heap s'.heap ∧ s'.os = s₁.os ∧ AllBare s'.gens) s₁ := by
  have rv := vals_ints hi
  have lenV := hi.length
  -- from an abstract heap in which nothing but the script may be tracked
  have core : ∀ H : Hp, Only H → SqL K H a (ns.map V.int) → HOk P w H s₁.heap → (∀ b, H b ≠ none → b = a) → (H a ≠ none → K.lookup a = none) →
      codeAny (model P w) callerA (.call (.ref fa) ⟨[.ref a], []⟩) (fun r s' => r = .ok (.ret (.bool true)) ∧ OldK s₁.heap s'.heap ∧ s'.os = s₁.os ∧ AllBare s'.gens) s₁ := by
    intro H hO hS hok hA hK
    have base_of : ∀ {b : Addr} {o : Obj}, s₁.heap.get? b = some o → H b = none → (hidT s₁.heap H).get? b = some o := fun e n => hidT_get e n
    have noA : ∀ {b : Addr} {o : Obj} {es : Array DictEntry} {ep : Nat}, s₁.heap.get? b = some o → o.data = .dict es ep → H b = none := fun {b o es ep} e d => by
      cases q : H b with
      | none => rfl
      | some u =>
        have e' : b = a := hA b (by rw [q]; simp)
        subst e'
        rw [ha] at e; cases e
        have d' : Data.seq vs.toArray _ = Data.dict es ep := d
        cases d'
    have nsK : ∀ {b : Addr} {m : Str → Option Value}, s₁.heap.Ns b m → (hidT s₁.heap H).Ns b m := fun {b m} ⟨o, es, ep, e, d, r⟩ => ⟨o, es, ep, base_of e (noA e d), d, r⟩
    have hKb : K.In (hidT s₁.heap H) := fun b o e => base_of (KX b o e) (by
      cases q : H b with
      | none => rfl
      | some u =>
        have e' : b = a := hA b (by rw [q]; simp)
        subst e'
        rw [hK (by rw [q]; simp)] at e; cases e)
    have hM : Mod K mg (hidT s₁.heap H) := ⟨hKb, nsK hns, ⟨mb, nsK hb, hbb⟩, let ⟨mc, h1, h2⟩ := hlim; ⟨mc, nsK h1, h2⟩⟩
    have e0 : Env0 P w K mg (hidT s₁.heap H) callerA [] s₁ H := ⟨rfl, hM, fun b o e => of_hidT e, Nat.le_of_eq (hidT_size _ _), trivial, fun b hb => absurd (show b ∈ ([] : List Addr) from hb) (by simp), hok, .of_eq hg⟩
    refine codeAny_mono ((F _ hKb (nsK hns)).run callerA [] s₁ H ⟨[.ref a], []⟩ [.ref a] [.ref a] _ _ hr e0 (hbind s₁ (.ref a)) (.cons rfl .nil) (hsp H hO hS)) fun r s' h => ?_
    cases r with
    | error e => exact (hCX H e s' h).elim
    | ok fl =>
      cases fl with
      | next => exact False.elim h
      | brk => exact False.elim h
      | cont => exact False.elim h
      | ret u =>
        obtain ⟨v, H', os, bare, un, hok', r', q⟩ := h
        have q' : v = .bl true := q
        subst q'
        obtain rfl : u = Value.bool true := r'
        refine ⟨rfl, OldK.of_keep fun b o e => ?_, os, bare⟩
        cases q : H b with
        | none => exact un.keep b o e q (by intro z; exact absurd (show b ∈ ([] : List Addr) from z) (by simp)) (by simp)
        | some u =>
          rcases hO b with z | ⟨ob, xs, z⟩
          · rw [q] at z; cases z
          · have z2 := un.frzs b ob _ z
            obtain ⟨e1, _⟩ := hok b _ z
            obtain ⟨e2, _⟩ := hok' b _ z2
            rw [e] at e1; cases e1
            exact e2
  cases hk : K.lookup a with
  | some o =>
    -- the script is one of the module's own objects
    have e := KX a o hk
    rw [ha] at e
    cases e
    refine core (fun _ => none) (fun _ => .inl rfl) (.inr ⟨_, vs.toArray, _, hk, rfl, rfl, rfl, by rw [List.size_toArray, lenV]; exact hl, by simpa using rv⟩) (fun b u z => by have z' : (none : Option HO) = some u := z; cases z') (fun b z => absurd rfl z) fun z => absurd rfl z
  | none =>
    refine core (fun b => if b = a then some (.frz { cls := .type "list", data := .seq vs.toArray } (.lst (ns.map V.int))) else none) (fun b => ?_) (.inl (.inr ⟨{ cls := .type "list", data := .seq vs.toArray }, if_pos rfl⟩)) (fun b u z => ?_) (fun b z => ?_) fun _ => hk
    · by_cases hb : b = a
      · exact .inr ⟨_, _, if_pos hb⟩
      · exact .inl (if_neg hb)
    · by_cases hb : b = a
      · have z' := (if_pos hb).symm.trans z
        cases z'
        subst hb
        exact ⟨ha, by rw [List.length_map]; exact hl, vs, _, rv, ha⟩
      · have z' := (if_neg hb).symm.trans z
        cases z'
    · by_cases hb : b = a
      · exact hb
      · exact absurd (if_neg hb) z
end L2

namespace L2
open PySem PySem.Spec PyProof.Rows


/-- the goal that k_head leaves (case hc), from the law's promise. F gives the function object fd (K's own) once, then the promise over every base -/
theorem walk_of {l : PySem.W.OpenLaw} {n k : Nat} {q : Program} {loose : List Str} {XP : (Str → Option Value) → Heap → Prop} {YP : World → Heap → Prop} {d : DefRec} {K : Params → PySem.W.Frag} {CX : World → CXT} {sp : World → Sp} {x : Str}
    (hn : l.most = some n) (hn2 : n ≤ sizeLine) (hdf : d.params.defaults = []) (hr : Room k callerA)
    (hY : ∀ (w : World) (h : Heap), YP w h → (K w.params).In h)
    (F : ∀ (w : World) (mg : Str → Option Value) (fa : Addr) (h : Heap), (K w.params).In h → h.Ns mainGlobals mg → mg d.name = some (.ref fa) →
      ∃ fd : FuncData, (∀ (s : Shared) (u : Value), BindsTo s fd ⟨[u], []⟩ [(x, u)]) ∧
        ∀ base : Heap, (K w.params).In base → base.Ns mainGlobals mg → FnOk l.prog w (K w.params) mg base (CX w) k fa fd [x] (sp w))
    (hsp : ∀ (w : World) (H : Hp) (a : Addr) (ns : List Int), ns.length ≤ n → Only H → SqL (K w.params) H a (ns.map V.int) → sp w [.ref a] H (fun v _ => v = .bl true) fun _ _ _ => False)
    (hCX : ∀ (w : World) (H : Hp) (s : Shared) (e : Value) (s' : Shared), CX w [] H s (fun _ _ _ => False) e s' → False) :
    PySem.W.WalkO q loose XP YP l.row.toRowW d [] (fun f vs => PySem.call f vs) := by
  refine Att.attach_call hn hdf fun w s₀ s₁ mg mb fa o pm cd doc a vs ns G Y ho hd hcd hmg hobj hints hlen hg => ?_
  have KX := hY w _ Y
  obtain ⟨fd, hb, hF⟩ := F w mg fa _ KX G.T.g hmg
  exact law_call KX G.T.g G.T.b G.T.builtins G.T.nolimit hg hobj hints (Nat.le_trans hlen hn2) hr hF hb (fun H hO hS => hsp w H a ns hlen hO hS) fun H e s' => hCX w H s₁ e s'
end L2

/- THE LAST THEOREM (shape; LID, My.* are yours):
   My.Adr: a structure of the addresses that your layer names (classes, functions); My.Txt K t: a structure (Prop) of the equations over K;
   My.txt_mk : {K} {implicit addresses ..} (e1 : nsIn K mainGlobals "law" = some (some (.ref f))) (e2 : K.lookup f = some ⟨oc, od, .func (fnOf "law" "law" params body scope dV kV doc pm an cdv ct), sl⟩) (e3 : codeIn K cdv "law" = true) .. : ∃ t, My.Txt K t

theorem PySem.Challenge.cw_LID_holds : PySem.Challenge.rw_LID.Holds := by
  w_on; o_law; k_head; (case hw => w_witness2)
  k_fill
  refine L2.walk_of (l := PySem.Challenge.rw_LID) (n := 63) (k := 40) (x := "script") (CX := fun w => ..) (sp := fun _ => My.sp_law) rfl (by decide) rfl ⟨rfl, by decide, by decide⟩ (fun w h Y => PySem.W.kIn_of Y) ?F ?S ?C
  case F =>
    intro w mg fa h KX G hmg
    have T : ∃ t, My.Txt (L2.KOf KX) t := by
      dsimp only [L2.KOf]                          -- K must stand as «<heap const> w.params» for k_is
      refine' My.txt_mk ?e1 ?e2 ?e3 ..
      (case e1 => PySem.W.k_is)                    -- in the order: a name -> its address -> its object -> its parts
      (case e2 => PySem.W.k_is)
      ..
    obtain ⟨t, T⟩ := T
    have e0 := hmg.symm.trans (PySem.W.mg_of KX G T.law)
    cases e0                                       -- fa is the law's own address
    exact ⟨_, fun s u => .of_eq rfl, fun base kb nb => My.law_fn T kb nb⟩     -- if «.of_eq rfl» comes too early: refine' ⟨_, ?b, fun base kb nb => My.law_fn T kb nb⟩; exact fun s u => .of_eq rfl
  case S => exact fun w H a ns hl hO hS => ..
  case C => exact ..
(the tactic k_is has no namespace: write k_is) -/

/-! SHORT WORDS over the layer: a def of the text, its body, what a loop and a test want. -/
namespace L2
open PySem PySem.Spec PyProof.Rows

/-! ### the text by places -/
noncomputable def defArgs (s : Stmt) : Arguments := match s with
  | .FunctionDef _ a _ _ _ _ _ _ _ _ => a
  | _ => { posonlyargs := [], args := [], vararg := none, kwonlyargs := [], kw_defaults := [], kwarg := none, defaults := [] }
noncomputable def defBody (s : Stmt) : List Stmt := match s with
  | .FunctionDef _ _ b _ _ _ _ _ _ _ => b
  | _ => []
noncomputable def defScope (s : Stmt) : Scope := match s with
  | .FunctionDef _ _ _ _ _ _ sc _ _ _ => sc
  | _ => { kind := .function, names := [], isGenerator := false, isCoroutine := false }

/-! ### no exception leaves a def -/
noncomputable abbrev CX0 : CXT := fun _ _ _ _ _ _ => False
noncomputable abbrev E0 : XK := fun _ _ _ => False
theorem pass0 {X : Cx} : Passes CX0 X E0 := fun _ _ _ _ _ _ _ h => h.elim

/-! ### a def (or method) of the text as it stands behind the top -/
structure Fun (K : PySem.W.Frag) (x qual : Str) (st : Stmt) (f : Addr) (fd : FuncData) : Prop where
  ex : ∃ (oc : Value) (od : Option Addr) (kV doc pm : Value) (an : Option Addr) (cdv ct : Value) (osl : Array (Option Value)),
    fd = PySem.W.fnOf x qual (defArgs st) (defBody st) (defScope st) .none kV doc pm an cdv ct ∧ K.lookup f = some ⟨oc, od, .func fd, osl⟩ ∧ PySem.W.codeIn K cdv qual = true
  kp : PySem.W.keepIn K (.ref f) = true
section
variable {P : Program} {w : World} {K : PySem.W.Frag} {mg : Str → Option Value} {base : Heap}
/-- THE RULE for a def: its body as a term of rules, and the reading of that term -/
theorem Fun.ok {x qual : Str} {st : Stmt} {f : Addr} {fd : FuncData} {N ps : List Str} {k : Nat} {sp : Sp} (F : Fun K x qual st f fd) (S : FnScope N ps (defScope st)) (len : ∀ vs H Q E, sp vs H Q E → vs.length = ps.length)
    (hbody : ∀ (cdv : Value) (A : Around) (outer : List Env) (s : Shared) (H : Hp) (vs : List V) (Q : VK) (E : XK), Room k (A.deeper (envOfC qual (defScope st) s.heap.objs.size f cdv)) → sp vs H Q E →
      ∃ t, PSs (cxOf CX0 P w K mg base N qual (defScope st) f cdv A outer s H E).nox (defBody st) t ∧ t { nx := fun _ H' => Q .non H', rt := Q } (start N vs) H) : FnOk P w K mg base CX0 (k + 1) f fd ps sp := by
  obtain ⟨oc, od, kV, doc, pm, an, cdv, ct, osl, rfl, lk, hcd⟩ := F.ex
  refine fn_of lk hcd S len fun A outer s H vs Q E hr hsp => ?_
  obtain ⟨t, h, q⟩ := hbody cdv A outer s H vs Q E hr hsp
  exact ⟨t, h.nox, q⟩
theorem fun_mk {x qual : Str} {st : Stmt} {f : Addr} {oc : Value} {od an : Option Addr} {osl : Array (Option Value)} {kV doc pm cdv ct : Value} (l : K.lookup f = some ⟨oc, od, .func (PySem.W.fnOf x qual (defArgs st) (defBody st) (defScope st) .none kV doc pm an cdv ct), osl⟩)
    (c : PySem.W.codeIn K cdv qual = true) (k : PySem.W.keepIn K (.ref f) = true) : Fun K x qual st f (PySem.W.fnOf x qual (defArgs st) (defBody st) (defScope st) .none kV doc pm an cdv ct) := ⟨⟨oc, od, kV, doc, pm, an, cdv, ct, osl, rfl, l, c⟩, k⟩
end
theorem hu_of {A : Around} {k : Nat} (hr : Room k A) : A.units + 1 < cLine := Nat.lt_of_le_of_lt (Nat.add_le_add_left (by decide : 1 ≤ 64) _) hr.units
theorem small1000 {n : Nat} (h : n ≤ 1000) : n < sizeLine := Nat.lt_of_le_of_lt h (by decide)

/-! ### expressions in short: the name that stands in the i-th slot -/
section
variable {X : Cx}
end

/-! ### tests -/
theorem ite2 {c A B : Prop} [Decidable c] (h1 : c → A) (h2 : ¬ c → B) : if c then A else B := by
  by_cases h : c
  · rw [if_pos h]
    exact h1 h
  · rw [if_neg h]
    exact h2 h

/-! ### heaps -/
/-- all that was tracked is as it was -/
noncomputable def Same (H H' : Hp) : Prop := ∀ b o, H b = some o → H' b = some o
theorem Same.refl (H : Hp) : Same H H := fun _ _ h => h
theorem Same.trans {H H1 H2 : Hp} (a : Same H H1) (b : Same H1 H2) : Same H H2 := fun c o h => b c o (a c o h)
theorem Same.free {H H' : Hp} (e : Same H H') {l : Addr} (h : H' l = Option.none) : H l = Option.none := by
  cases q : H l with
  | none => rfl
  | some o =>
    rw [e l o q] at h
    cases h
theorem Same.seq {K : PySem.W.Frag} {H H' : Hp} {a : Addr} {xs : List V} (e : Same H H') (h : SqL K H a xs) : SqL K H' a xs := by
  rcases h with (h | ⟨o, h⟩) | h
  · exact .inl (.inl (e _ _ h))
  · exact .inl (.inr ⟨o, e _ _ h⟩)
  · exact .inr h

/-! ### a dict's pairs: keys that differ -/
section
variable {κ : Type} [DecidableEq κ]
end
end L2


set_option maxRecDepth 100000
namespace L2
open PySem PySem.Spec PyProof.Rows

/-! ### list comprehensions with one clause -/
/-- the cells that a comprehension's block is handed -/
noncomputable def ccl (sc : Scope) (env : Env) : List (Str × Addr) := (sc.names.filterMap fun p => if p.2 == .free then (env.cells.lookup p.1).map fun c => (p.1, c) else none).reverse

theorem forIn_cells {env : Env} : ∀ (l : List (Str × NameKind)) (acc : List (Str × Addr)), (∀ p ∈ l, p.2 = .free → ∃ c, env.cells.lookup p.1 = some c) →
    (forIn l acc fun (x : Str × NameKind) r => match x with | (name, kind) => (if (kind == NameKind.free) = true then do let a ← cellOf env name; pure (ForInStep.yield ((name, a) :: r)) else pure (ForInStep.yield r) : Sem _)) =
      pure ((l.filterMap fun p => if p.2 == .free then (env.cells.lookup p.1).map fun c => (p.1, c) else none).reverse ++ acc)
  | [], acc, _ => rfl
  | (n, k) :: r, acc, h => by
    rw [List.forIn_cons]
    have hr : ∀ p ∈ r, p.2 = .free → ∃ c, env.cells.lookup p.1 = some c := fun p hp => h p (List.mem_cons_of_mem _ hp)
    by_cases hk : k = .free
    · subst hk
      obtain ⟨c, hc⟩ := h (n, .free) List.mem_cons_self rfl
      have e1 : cellOf env n = pure c := by unfold cellOf; rw [hc]
      simp only [beq_self_eq_true, if_true, e1, pure_bind]
      rw [forIn_cells r _ hr]
      simp [List.filterMap_cons, hc]
    · have hb : (k == NameKind.free) = false := by simpa using hk
      simp only [hb, Bool.false_eq_true, if_false, pure_bind]
      rw [forIn_cells r _ hr]
      simp [List.filterMap_cons, hk]
theorem closure_ccl {sc : Scope} {env : Env} (h : ∀ p ∈ sc.names, p.2 = .free → ∃ c, env.cells.lookup p.1 = some c) : closureFor sc env = pure (ccl sc env) := by
  unfold closureFor
  have q := forIn_cells (env := env) sc.names [] h
  rw [List.append_nil] at q
  unfold ccl
  rw [← q, bind_pure]

theorem lookup_revmap {f : Str → Option Addr} : ∀ (l : List (Str × NameKind)) (x : Str) (c : Addr),
    (l.filterMap fun p => if p.2 == .free then (f p.1).map fun c => (p.1, c) else none).reverse.lookup x = some c → f x = some c := by
  intro l x c h
  have hm := PySem.mem_of_lookup h
  rw [List.mem_reverse, List.mem_filterMap] at hm
  obtain ⟨p, _, e⟩ := hm
  split at e
  · cases q : f p.1 with
    | none => rw [q] at e; cases e
    | some d =>
      rw [q] at e
      simp only [Option.map_some, Option.some.injEq, Prod.mk.injEq] at e
      obtain ⟨e1, e2⟩ := e
      rw [← e1, q, e2]
  · cases e
theorem lookup_some_of_mem {β : Type} : ∀ {l : List (Str × β)} {x : Str} {c : β}, (x, c) ∈ l → ∃ d, l.lookup x = some d
  | [], _, _, h => nomatch h
  | (n, d) :: r, x, c, h => by
    by_cases e : x = n
    · subst e; exact ⟨d, by simp [List.lookup_cons]⟩
    · have hb : (x == n) = false := by simpa using e
      rcases List.mem_cons.mp h with q | q
      · cases q; exact absurd rfl e
      · obtain ⟨d', hd⟩ := lookup_some_of_mem q
        exact ⟨d', by simp [List.lookup_cons, hb, hd]⟩
theorem ccl_sub {sc : Scope} {env : Env} {x : Str} {c : Addr} (h : (ccl sc env).lookup x = some c) : env.cells.lookup x = some c := lookup_revmap (f := fun n => env.cells.lookup n) sc.names x c h
theorem ccl_has {sc : Scope} {env : Env} {x : Str} {c : Addr} (hx : (x, NameKind.free) ∈ sc.names) (hc : env.cells.lookup x = some c) : (ccl sc env).lookup x = some c := by
  have hm : (x, c) ∈ ccl sc env := by
    unfold ccl
    rw [List.mem_reverse, List.mem_filterMap]
    exact ⟨(x, .free), hx, by simp [hc]⟩
  obtain ⟨d, hd⟩ := lookup_some_of_mem hm
  have := ccl_sub hd
  rw [hc] at this
  rw [hd, this]

theorem relabel_cases {env : Env} : ∀ {names : List (Str × NameKind)} {x : Str} {k : NameKind},
    (names.map fun (n, k) => if (k == NameKind.free && env.scope.kind == .function && env.kindOf n == some .cell) then (n, NameKind.cell) else (n, k)).lookup x = some k →
    names.lookup x = some k ∨ (k = .cell ∧ names.lookup x = some .free)
  | [], _, _, h => by simp at h
  | (n, q) :: r, x, k, h => by
    have ih := @relabel_cases env r x k
    rw [List.map_cons] at h
    cases hx : x == n with
    | true =>
      by_cases hc : (q == NameKind.free && env.scope.kind == .function && env.kindOf n == some .cell) = true
      · simp only [hc, if_true, List.lookup_cons, hx, Option.some.injEq] at h
        have hq : q = .free := by
          have := (Bool.and_eq_true _ _ ▸ (Bool.and_eq_true _ _ ▸ hc).1).1
          simpa using this
        subst hq
        exact .inr ⟨h.symm, by simp [List.lookup_cons, hx]⟩
      · simp only [hc, if_false, List.lookup_cons, hx, Option.some.injEq, Bool.false_eq_true] at h
        subst h
        exact .inl (by simp [List.lookup_cons, hx])
    | false =>
      have h' : (r.map fun (n, k) => if (k == NameKind.free && env.scope.kind == .function && env.kindOf n == some .cell) then (n, NameKind.cell) else (n, k)).lookup x = some k := by
        by_cases hc : (q == NameKind.free && env.scope.kind == .function && env.kindOf n == some .cell) = true
        · simpa only [hc, if_true, List.lookup_cons, hx] using h
        · simpa only [hc, if_false, List.lookup_cons, hx, Bool.false_eq_true] using h
      rcases ih h' with z | ⟨z1, z2⟩
      · exact .inl (by simp [List.lookup_cons, hx, z])
      · exact .inr ⟨z1, by simp [List.lookup_cons, hx, z2]⟩
theorem relabel_free {env : Env} : ∀ {names : List (Str × NameKind)} {x : Str}, names.lookup x = some .free →
    (names.map fun (n, k) => if (k == NameKind.free && env.scope.kind == .function && env.kindOf n == some .cell) then (n, NameKind.cell) else (n, k)).lookup x = some .cell ∨
    (names.map fun (n, k) => if (k == NameKind.free && env.scope.kind == .function && env.kindOf n == some .cell) then (n, NameKind.cell) else (n, k)).lookup x = some .free
  | [], _, h => by simp at h
  | (n, q) :: r, x, h => by
    have ih := @relabel_free env r x
    rw [List.map_cons]
    cases hx : x == n with
    | true =>
      simp only [List.lookup_cons, hx, Option.some.injEq] at h
      subst h
      by_cases hc : (NameKind.free == NameKind.free && env.scope.kind == .function && env.kindOf n == some .cell) = true
      · exact .inl (by simp only [hc, if_true, List.lookup_cons, hx])
      · exact .inr (by simp only [hc, if_false, List.lookup_cons, hx, Bool.false_eq_true])
    | false =>
      simp only [List.lookup_cons, hx] at h
      by_cases hc : (q == NameKind.free && env.scope.kind == .function && env.kindOf n == some .cell) = true
      · simpa only [hc, if_true, List.lookup_cons, hx] using ih h
      · simpa only [hc, if_false, List.lookup_cons, hx, Bool.false_eq_true] using ih h

/-- the block's context -/
noncomputable def cxComp (X : Cx) (N : List Str) (sc : Scope) (pins : List (Addr × Obj)) (C : Addr) (s₀ : Shared) (H₀ : Hp) (fp : List Addr) : Cx :=
  { X with N := N, s₀ := s₀, H₀ := H₀, env := compEnvC sc (ccl sc X.env) C X.env, outer := X.stack, ex := fp, fn := fun _ => false, pn := X.pn ++ pins, xe := fun _ _ => False }

/-- the scope of a comprehension: n own names, then the free ones; fr: their places among the names around -/
structure CScope (X : Cx) (n : Nat) (fr : List Nat) (N : List Str) (sc : Scope) : Prop where
  kind : sc.kind = .function
  nocell : ∀ p ∈ sc.names, p.2 ≠ .cell
  own : ∀ p ∈ sc.names, p.2 = .local → sc.names.lookup p.1 = some .local
  out : ∀ p ∈ sc.names, p.2 = .free → X.env.kindOf p.1 = some .cell ∨ X.env.kindOf p.1 = some .free
  len : N.length = n + fr.length
  free : ∀ i x, N[n + i]? = some x → (x, NameKind.free) ∈ sc.names ∧ sc.names.lookup x = some .free ∧ ∃ j, fr[i]? = some j ∧ X.N[j]? = some x
/-- .. by what is written (CScope0) -/
noncomputable def CS0 (scX : Scope) (NX : List Str) (n : Nat) (fr : List Nat) (N : List Str) (sc : Scope) : Prop :=
  sc.kind = .function ∧ (∀ p ∈ sc.names, p.2 ≠ .cell) ∧ (∀ p ∈ sc.names, p.2 = .local → sc.names.lookup p.1 = some .local) ∧
  (∀ p ∈ sc.names, p.2 = .free → scX.names.lookup p.1 = some .cell ∨ scX.names.lookup p.1 = some .free) ∧ N.length = n + fr.length ∧
  (∀ x ∈ N.drop n, (x, NameKind.free) ∈ sc.names ∧ sc.names.lookup x = some .free) ∧ (N.drop n).map some = fr.map fun j => NX[j]?
instance {scX : Scope} {NX : List Str} {n : Nat} {fr : List Nat} {N : List Str} {sc : Scope} : Decidable (CS0 scX NX n fr N sc) := by unfold CS0; exact inferInstance
theorem cs_mk {X : Cx} {scX : Scope} {NX : List Str} {n : Nat} {fr : List Nat} {N : List Str} {sc : Scope} (h1 : X.env.scope = scX) (h2 : X.N = NX) (h : CS0 scX NX n fr N sc) : CScope X n fr N sc := by
  obtain ⟨a, b, c, d, e, f, g⟩ := h
  refine ⟨a, b, c, fun p hp z => ?_, e, fun i x hx => ?_⟩
  · have q := d p hp z
    rw [← h1] at q
    exact q
  · have hd : (N.drop n)[i]? = some x := by rw [List.getElem?_drop]; exact hx
    obtain ⟨f1, f2⟩ := f x (List.mem_of_getElem? hd)
    refine ⟨f1, f2, ?_⟩
    have q : ((N.drop n).map some)[i]? = some (some x) := by rw [List.getElem?_map, hd]; rfl
    rw [g, List.getElem?_map] at q
    cases z : fr[i]? with
    | none => rw [z] at q; cases q
    | some j =>
      rw [z] at q
      refine ⟨j, rfl, ?_⟩
      rw [h2]
      exact Option.some.inj q
noncomputable def cst (n : Nat) (fr : List Nat) (σ : St) : St := List.replicate n none ++ fr.map fun j => (σ[j]?).getD none

theorem closure_ok {X : Cx} {n : Nat} {fr : List Nat} {N : List Str} {sc : Scope} (S : CScope X n fr N sc) (ok : X.Ok) : closureFor sc X.env = pure (ccl sc X.env) :=
  closure_ccl fun p hp e => ok.has p.1 (S.out p hp e)

section
variable {X : Cx} {n : Nat} {fr : List Nat} {N : List Str} {sc : Scope} {pins : List (Addr × Obj)} {σ : St} {H : Hp} {s : Shared} {fp : List Addr} {h₁ : Heap} {tk : Nat}

theorem comp_start (S : CScope X n fr N sc) (I : Inv X pins σ H s) (hf : ∀ b ∈ fp, FpOk X pins H b) (hlt : ∀ b ∈ fp, b < s.heap.objs.size)
    (hn : h₁.Ns s.heap.objs.size (fun _ => none)) (hk : ∀ b o, s.heap.get? b = some o → h₁.get? b = some o) :
    Inv (cxComp X N sc pins s.heap.objs.size s H fp) [] (cst n fr σ) H { s with heap := h₁, toks := tk } := by
  have hsub : ∀ b ∈ frs X.stack, b ∈ X.env.locals :: X.fs := I.stkSub
  refine ⟨⟨I.ok.mod, ?_, I.ok.glob, I.ok.blt, Nat.le_refl _, fun x y c h1 h2 => ?_, fun x hx => ?_, fun x c z => (by cases z), I.ok.hd, I.ok.frames, .inl rfl, fun b hb => ⟨?_, fun x c e => ?_⟩, fun b o e => I.bs b o e, Nat.le_trans I.ok.bsz I.sz, fun b o e hb => ?_, fun b hb hz => ?_, I.stack, I.stkFree⟩,
    rfl, I.bare, Un.kept hk, ⟨_, hn, fun i x v e1 e2 e3 => ?_⟩, fun x c e => ?_, I.hok.fresh (Nat.le_refl _), fun x c e => ?_, fun p hp => ?_, I.hok.kept hk, ?_⟩
  · exact S.kind
  · exact I.ok.inj x y c (ccl_sub h1) (ccl_sub h2)
  · have hx' : (relabel sc X.env).names.lookup x = some .cell ∨ (relabel sc X.env).names.lookup x = some .free := hx
    have fr' : sc.names.lookup x = some .free := by
      rcases hx' with z | z
      · rcases relabel_cases z with q | ⟨_, q⟩
        · exact absurd rfl (S.nocell _ (PySem.mem_of_lookup q))
        · exact q
      · rcases relabel_cases z with q | ⟨q, _⟩
        · exact q
        · cases q
    obtain ⟨c, hc⟩ := I.ok.has x (S.out _ (PySem.mem_of_lookup fr') rfl)
    exact ⟨c, ccl_has (PySem.mem_of_lookup fr') hc⟩
  · exact Nat.ne_of_lt (hlt b hb)
  · exact (hf b hb).2.2.2.2.1 x c (ccl_sub e)
  · rcases (hf b hb).2.2.2.1 with z | z
    · exact I.ok.noex b o e z
    · exact absurd (Nat.lt_of_lt_of_le (Heap.lt_size e) (Nat.le_trans I.ok.bsz z)) (Nat.lt_irrefl _)
  · rcases List.mem_cons.mp (hsub b hz) with z | z
    · exact (hf b hb).2.1 z
    · exact (hf b hb).2.2.1 z
  · have e1' : N[i]? = some x := e1
    have hi : n ≤ i := by
      apply Nat.le_of_not_lt
      intro hlt
      unfold cst at e2
      rw [List.getElem?_append_left (by simpa using hlt), List.getElem?_replicate] at e2
      split at e2 <;> cases e2
    obtain ⟨j, rfl⟩ : ∃ j, i = n + j := ⟨i - n, by omega⟩
    obtain ⟨hm, hl, q, hq, hX⟩ := S.free j x e1'
    have e2' : (σ[q]?).getD none = some v := by
      unfold cst at e2
      rw [List.getElem?_append_right (by simp)] at e2
      simp only [List.length_replicate, Nat.add_sub_cancel_left, List.getElem?_map, hq, Option.map_some, Option.some.injEq] at e2
      exact e2
    have hσ : σ[q]? = some (some v) := by
      cases z : σ[q]? with
      | none => rw [z] at e2'; cases e2'
      | some w => rw [z] at e2'; simp only [Option.getD_some] at e2'; rw [e2']
    have ko := S.out _ hm rfl
    have hv : Vis X.env.scope x := by
      rcases ko with z | z
      · exact .inr (.inl z)
      · exact .inr (.inr z)
    obtain ⟨m, _, hloc⟩ := I.loc
    obtain ⟨u, r, l⟩ := hloc q x v hX hσ hv
    refine ⟨u, r, .inr ⟨?_, ?_⟩⟩
    · exact relabel_free hl
    · rcases l with ⟨k, _⟩ | ⟨_, c, hc, hcell⟩
      · rcases ko with z | z <;> (rw [k] at z; cases z)
      · refine ⟨c, ccl_has hm hc, ?_⟩
        obtain ⟨o, ho, hd⟩ := hcell
        exact ⟨o, hk c o ho, hd⟩
  · obtain ⟨v, o, ho, hd⟩ := I.cell x c (ccl_sub e)
    exact ⟨v, o, hk c o ho, hd⟩
  · exact I.freeC x c (ccl_sub e)
  · have hp' : p ∈ X.pn ++ pins := by
      have z : p ∈ (X.pn ++ pins) ++ [] := hp
      rwa [List.append_nil] at z
    obtain ⟨e, hn', ne, nf, d⟩ := I.pin p hp'
    refine ⟨hk p.1 p.2 e, hn', Nat.ne_of_lt (Heap.lt_size e), fun hz => ?_, d⟩
    rcases List.mem_cons.mp (hsub p.1 hz) with z | z
    · exact ne z
    · exact nf z
  · show (cst n fr σ).length = N.length
    unfold cst
    rw [List.length_append, List.length_replicate, List.length_map, S.len]

/-- back from the block -/
theorem comp_back {C : Addr} {σ' : St} {H' : Hp} {s' : Shared} {pins' : List (Addr × Obj)} (I : Inv X pins σ H s) (hf : ∀ b ∈ fp, FpOk X pins H b) (J : Inv (cxComp X N sc pins C s H fp) pins' σ' H' s') : Inv X pins σ H' s' :=
  I.call' (ch := fp) J.os J.base J.hok J.bare fun b hb => ⟨(hf b hb).2.2.2.1, (hf b hb).2.1, (hf b hb).2.2.2.2.1, (hf b hb).2.2.2.2.2⟩
end

/-- the clause's tests -/
noncomputable def PIfs (X : Cx) (ifs : List Expr) (t : TT) : Prop :=
  ∀ (pins : List (Addr × Obj)) (s : Shared) (σ : St) (H : Hp) (Q : Bool → Hp → Prop), Inv X pins σ H s → t σ H Q →
    wpAny (model X.prog X.w) X.A (forIn ifs true fun c r => if r = true then do let ok ← isTrue c X.env (eval c X.env); pure (ForInStep.yield ok) else pure (ForInStep.yield r)) (TP X pins σ Q) X.xe s
noncomputable def tTrue : TT := fun _ H Q => Q true H
theorem pifs_nil {X : Cx} : PIfs X [] tTrue := fun _ _ _ H _ I h => wpAny_pure ⟨H, I, h⟩
theorem pifs_one {X : Cx} {c : Expr} {t : TT} (hc : PT X c t) : PIfs X [c] t := by
  intro pins s σ H Q I h
  rw [List.forIn_cons]
  refine wpAny_bind ?_
  rw [if_pos rfl]
  refine wpAny_bind (thn (hc pins s σ H Q I h) fun b s1 q => wpAny_pure ?_)
  exact wpAny_pure q

/-- the turns of a comprehension that fills the list at D, from the names σ and the heap H on -/
noncomputable def CompW (J : It) (g : TG) (tc : TT) (te : TE) (D : Addr) (σ : St) (H : Hp) (Q : VK) : Prop :=
  ∃ W : Nat → Nat → St → Hp → Prop, (∃ m, W 0 m σ H) ∧ ∀ i m σ' H', W i m σ' H' →
    (J.stop i H' ∧ Q (.ref D) H') ∨ (J.go i H' ∧ ∃ N : St → Hp → Prop, (∀ σ3 H3, N σ3 H3 → ∃ m', m' < m ∧ W (i + 1) m' σ3 H3) ∧ ∀ x H2, J.yld i H' x H2 → g x σ' H2 fun σ3 H3 => tc σ3 H3 fun b H4 =>
      if b = true then te σ3 H4 fun y H5 => ∃ ys, H5 D = some (.lst ys) ∧ ys.length < sizeLine ∧ N σ3 (upd H5 D (.lst (ys ++ [y])))
      else N σ3 H4)
/-- a comprehension's reading -/
noncomputable def tComp (wi : TI) (n : Nat) (fr : List Nat) (g : TG) (tc : TT) (te : TE) : TE := fun σ H Q => wi σ H fun J H1 => ∀ D, H1 D = none → CompW J g tc te D (cst n fr σ) (upd H1 D (.lst [])) Q

section
variable {X : Cx} {n : Nat} {fr : List Nat} {N : List Str} {sc : Scope} {elt tg iter : Expr} {ifs : List Expr} {pos : Pos} {wi : TI} {g : TG} {tc : TT} {te : TE}

theorem comp_run {pins : List (Addr × Obj)} {σ : St} {H : Hp} {s : Shared} {fp : List Addr} {it : Addr} {tn : Nat → Heap → Prop} {J : It} {Q : VK} {E : Value → Shared → Prop} {RR : Value → Addr → Result → Shared → Prop}
    (hc : X.calm = true) (S : CScope X n fr N sc)
    (hg : ∀ C s₀ H₀ fp, PG (cxComp X N sc pins C s₀ H₀ fp) tg g) (hi : ∀ C s₀ H₀ fp, PIfs (cxComp X N sc pins C s₀ H₀ fp) ifs tc) (he : ∀ C s₀ H₀ fp, PE (cxComp X N sc pins C s₀ H₀ fp) elt te)
    (I : Inv X pins σ H s) (T : Turn X.prog X.w X.K tg J fp it tn) (st : tn 0 s.heap) (hf : ∀ b ∈ fp, FpOk X pins H b)
    (h : ∀ D, H D = none → CompW J g tc te D (cst n fr σ) (upd H D (.lst [])) Q)
    (hR : ∀ D C H' s', Inv X pins σ H' s' → FpOk X pins H' C → (∃ m, s'.heap.Ns C m) → Q (.ref D) H' → RR (.ref D) C (.ok .next) s') :
    wpAny (model X.prog X.w) X.A (newList []) (fun acc s₃ => wpAny (model X.prog X.w) X.A (newFunctionEnv sc X.env.globals (ccl sc X.env) [] X.env.qual none .none (some X.env)) (fun cenv s₄ =>
      codeAny (model X.prog X.w) X.A (.compStart (.ListComp elt [⟨tg, iter, ifs, 0⟩] sc pos) 0 (.ref it) acc { cenv with scope := relabel sc X.env }) (RR acc cenv.locals) s₄) E s₃) E s := by
  have hfree : H s.heap.objs.size = none := I.hok.fresh (Nat.le_refl _)
  have hltf : ∀ b ∈ fp, b < s.heap.objs.size := fun b hb => by
    obtain ⟨o, e, _⟩ := T.obj 0 s.heap st b hb
    exact Heap.lt_size e
  obtain ⟨W, ⟨m0, w0⟩, turn⟩ := h s.heap.objs.size hfree
  refine wpAny_newObj_type (wpAny_newFunctionEnv S.nocell (by intro y hy; simp at hy) (fun h₁ hns₁ hsb₁ => ?_) S.kind)
  dsimp only at hns₁ hsb₁ ⊢
  have I3 : Inv X pins σ (upd H s.heap.objs.size (.lst [])) { s with heap := s.heap.push { cls := .type "list", dict := none, data := .seq ([] : List Value).toArray } } :=
    I.laid (t' := s.toks) (fun b u e => Heap.get?_push_of_some _ e) (Nat.le_refl _) ⟨Nat.zero_le _, [], 0, .nil, Heap.get?_push_size _ rfl⟩
  have hf3 : ∀ b ∈ fp, FpOk X pins (upd H s.heap.objs.size (.lst [])) b := fun b hb => ⟨by rw [upd_ne (Nat.ne_of_lt (hltf b hb))]; exact (hf b hb).1, (hf b hb).2⟩
  generalize hs3 : ({ s with heap := s.heap.push { cls := .type "list", dict := none, data := .seq ([] : List Value).toArray } } : Shared) = s3 at *
  have e3 : s3.heap = s.heap.push { cls := .type "list", dict := none, data := .seq ([] : List Value).toArray } := by rw [← hs3]
  have et : s3.toks = s.toks := by rw [← hs3]
  have hlt3 : ∀ b ∈ fp, b < s3.heap.objs.size := fun b hb => by rw [e3, Heap.size_push]; exact Nat.lt_succ_of_lt (hltf b hb)
  have hk3 : ∀ b o, s3.heap.get? b = some o → h₁.get? b = some o := fun b o e => hsb₁.extBut b o (by rw [← e3]; exact Nat.ne_of_lt (Heap.lt_size e)) (by rw [← e3]; exact Heap.get?_push_of_some _ e)
  have hns3 : h₁.Ns s3.heap.objs.size (fun _ => none) := by rw [e3]; exact hns₁
  have I4 := comp_start (tk := s.toks + ([] : List (Str × Value)).length) S I3 hf3 hlt3 hns3 hk3
  have hDk : ∀ b o, s.heap.get? b = some o → h₁.get? b = some o := fun b o e => hk3 b o (by rw [e3]; exact Heap.get?_push_of_some _ e)
  have st4 : tn 0 h₁ := T.keep 0 s.heap h₁ st fun b hb o e => hDk b o e
  have hfX : ∀ {H' : Hp}, (∀ b ∈ fp, H' b = none) → ∀ b ∈ fp, FpOk (cxComp X N sc pins s3.heap.objs.size s3 (upd H s.heap.objs.size (.lst [])) fp) [] H' b := fun {H'} hn b hb => by
    refine ⟨hn b hb, Nat.ne_of_lt (hlt3 b hb), fun z => ?_, .inl hb, fun x c e => (hf3 b hb).2.2.2.2.1 x c (ccl_sub e), fun p hp => ?_⟩
    · rcases List.mem_cons.mp (I3.stkSub b z) with q | q
      · exact (hf3 b hb).2.1 q
      · exact (hf3 b hb).2.2.1 q
    · have hp' : p ∈ (X.pn ++ pins) ++ [] := hp
      rw [List.append_nil] at hp'
      exact (hf3 b hb).2.2.2.2.2 p hp'
  have loop : ∀ s₄ : Shared, s₄ = { s3 with heap := h₁, toks := s.toks + ([] : List (Str × Value)).length } →
      codeAny (model X.prog X.w) X.A (.compLoop (.ListComp elt [⟨tg, iter, ifs, 0⟩] sc pos) 0 (.ref it) (.ref s.heap.objs.size) (compEnvC sc (ccl sc X.env) s3.heap.objs.size X.env)) (RR (.ref s.heap.objs.size) s3.heap.objs.size) s₄ := by
    rintro s₄ rfl
    refine codeAny_loop rfl (fun k s' => ∃ i σ' H', Inv (cxComp X N sc pins s3.heap.objs.size s3 (upd H s.heap.objs.size (.lst [])) fp) [] σ' H' s' ∧ tn i s'.heap ∧ (∀ b ∈ fp, H' b = none) ∧ W i k σ' H') ?_ m0
      ⟨0, _, _, I4, st4, fun b hb => (hf3 b hb).1, w0⟩
    rintro k s5 ⟨i, σ5, H5, I5, st5, fr5, w5⟩
    show wpAny _ X.A ((compTurn (.ListComp elt [⟨tg, iter, ifs, 0⟩] sc pos) 0 (.ref it) (.ref s.heap.objs.size) (compEnvC sc (ccl sc X.env) s3.heap.objs.size X.env)).onRaise (fun x => do noteFrame x (compEnvC sc (ccl sc X.env) s3.heap.objs.size X.env); theTreesLotGoes x)) _ _ s5
    refine wpAny_noted ?_
    rw [compTurn_list]
    refine wpAny_bind (wpAny_standAt (wpAny_bind ?_))
    have nev : ∀ {α : Type} {t : Sem α} {Q₁ : α → Shared → Prop} {E₁ : Value → Shared → Prop} {s₁ : Shared}, wpAny (model X.prog X.w) X.A t Q₁ (fun _ _ => False) s₁ → wpAny (model X.prog X.w) X.A t Q₁ E₁ s₁ := fun h => wpAny_noRaise h
    rcases turn i k σ5 H5 w5 with ⟨stop, qn⟩ | ⟨go, Nn, hN, step⟩
    · refine nev (thn (T.done (cxComp X N sc pins s3.heap.objs.size s3 (upd H s.heap.objs.size (.lst [])) fp) rfl rfl rfl hc i [] s5 σ5 H5 (fun _ _ => False) I5 (hfX fr5) st5 stop) fun r s6 ⟨hr, I6⟩ => ?_)
      subst hr
      have B : Inv X pins σ H5 s6 := comp_back I3 hf3 I6
      refine wpAny_pure (hR _ _ H5 s6 B (I3.fpOk (Nat.le_refl _) I6.free) ?_ qn)
      obtain ⟨m, hm, _⟩ := I6.loc
      exact ⟨m, hm⟩
    · refine nev (thn (T.item (cxComp X N sc pins s3.heap.objs.size s3 (upd H s.heap.objs.size (.lst [])) fp) rfl rfl rfl hc i [] s5 σ5 H5 (fun _ _ => False) I5 (hfX fr5) st5 go) fun r s6 ⟨u, hr, h6⟩ => ?_)
      subst hr
      refine wpAny_bind (nev (thn h6 fun _ s7 ⟨x, H7, I7, r7, y7, st7, fr7⟩ => ?_))
      have I7' := I7.pinned (hfX fr7) (T.obj _ _ st7)
      refine wpAny_bind (nev (thn (hg _ _ _ _ _ s7 σ5 H7 x u _ I7' r7 (step x H7 y7)) fun _ s8 ⟨σ8, H8, I8, q8⟩ => ?_))
      refine wpAny_bind (nev (thn (hi _ _ _ _ _ s8 σ8 H8 _ I8 q8) fun b s9 ⟨H9, I9, q9⟩ => ?_))
      have fin : ∀ {s10 : Shared} {H10 : Hp} {m' : Nat}, m' < k → Inv (cxComp X N sc pins s3.heap.objs.size s3 (upd H s.heap.objs.size (.lst [])) fp) ([] ++ pinsAt fp s7.heap) σ8 H10 s10 → W (i + 1) m' σ8 H10 →
          ∃ m, m < k ∧ ∃ i σ' H', Inv (cxComp X N sc pins s3.heap.objs.size s3 (upd H s.heap.objs.size (.lst [])) fp) [] σ' H' s10 ∧ tn i s10.heap ∧ (∀ b ∈ fp, H' b = none) ∧ W i m σ' H' := fun {s10 H10 m'} hm I10 w10 => by
        refine ⟨m', hm, i + 1, σ8, H10, I10.unpinned, T.keep _ _ _ st7 fun b hb o e => (I10.pin (b, o) (List.mem_append_right _ (List.mem_append_right _ (mem_pinsAt hb e)))).1, fun b hb => ?_, w10⟩
        obtain ⟨o, e, d⟩ := T.obj _ _ st7 b hb
        exact (I10.pin (b, o) (List.mem_append_right _ (List.mem_append_right _ (mem_pinsAt hb e)))).2.1
      cases b with
      | false =>
        rw [if_neg Bool.false_ne_true] at q9
        obtain ⟨m', hm, w9⟩ := hN _ _ q9
        exact wpAny_pure ⟨rfl, fin hm I9 w9⟩
      | true =>
        rw [if_pos rfl] at q9
        refine wpAny_bind (wpAny_bind (nev (thn (he _ _ _ _ _ s9 σ8 H9 _ I9 q9) fun v s10 ⟨y, H10, I10, r10, q10⟩ => ?_)))
        obtain ⟨ys, hy, hz, n10⟩ := q10
        obtain ⟨m', hm, w10⟩ := hN _ _ n10
        refine wpAny_bind (nev (thn (mt_append _ s10 σ8 H10 (.ref s.heap.objs.size) [y] (.ref s.heap.objs.size) [v] (fun z H' => H' = upd H10 s.heap.objs.size (.lst (ys ++ [y]))) I10 rfl (.cons r10 .nil) ⟨_, ys, y, rfl, rfl, hy, hz, rfl⟩) fun z s11 ⟨_, H11, I11, _, e11⟩ => ?_))
        subst e11
        exact wpAny_pure (wpAny_pure ⟨rfl, fin hm I11 w10⟩)
  subst hs3
  exact codeAny_compStart_list (loop _ rfl) (T.self _ 0 _ _ _ st4 (loop _ rfl))

theorem pe_comp (hc : X.calm = true) (S : CScope X n fr N sc) (hit : PI X tg iter wi)
    (hg : ∀ pins C s₀ H₀ fp, PG (cxComp X N sc pins C s₀ H₀ fp) tg g) (hi : ∀ pins C s₀ H₀ fp, PIfs (cxComp X N sc pins C s₀ H₀ fp) ifs tc) (he : ∀ pins C s₀ H₀ fp, PE (cxComp X N sc pins C s₀ H₀ fp) elt te)
    (hs : ∀ x, foldedSetIterable iter X.env x = pure x := by intro _; rfl) : PE X (.ListComp elt [⟨tg, iter, ifs, 0⟩] sc pos) (tComp wi n fr g tc te) := by
  intro pins s σ H Q I h
  rw [eval_ListComp]
  refine wpAny_comprehension_free (use := none) rfl hs (closure_ok S I.ok) S.kind S.own ?_
  refine thn (hit pins s σ H _ I h) fun v s1 h1 => thn h1 fun itv s2 h2 => ?_
  obtain ⟨it, fp, tn, J, H2, e, I2, T, st2, f2, q2⟩ := h2
  subst e
  refine comp_run (RR := fun acc C => compPost (model X.prog X.w) X.A X.xe none (EP X pins σ Q) acc C) hc S (hg pins) (hi pins) (he pins) I2 T st2 f2 q2 fun D C H' s' I' fC hm q => ?_
  obtain ⟨m, hm⟩ := hm
  refine ⟨m, hm, fun h' hs' => ⟨.ref D, H', I'.turned (t' := s'.toks) (fun b o hb e => (hs'.2 b hb).trans e) fC.1 fC.2.1 fC.2.2.2.1 fC.2.2.2.2.1 fC.2.2.2.2.2, rfl, q⟩⟩

/-- name = [..] -/
theorem ps_setcomp {i : Nat} {x : Str} {pos' spos : Pos} (hc : X.calm = true) (hN : X.N.Nodup) (hi' : X.N[i]? = some x) (hx : Loc X.env.scope x) (S : CScope X n fr N sc) (hit : PI X tg iter wi)
    (hg : ∀ pins C s₀ H₀ fp, PG (cxComp X N sc pins C s₀ H₀ fp) tg g) (hi : ∀ pins C s₀ H₀ fp, PIfs (cxComp X N sc pins C s₀ H₀ fp) ifs tc) (he : ∀ pins C s₀ H₀ fp, PE (cxComp X N sc pins C s₀ H₀ fp) elt te)
    (hsw : swapsWith (.ListComp elt [⟨tg, iter, ifs, 0⟩] sc pos) (some (.Name x pos')) spos.line X.env = pure true)
    (hs : ∀ x, foldedSetIterable iter X.env x = pure x := by intro _; rfl) (hf : X.fn x = true ∨ X.env.scope.names.lookup x = some .local := by first | exact .inl rfl | exact .inr rfl | assumption) :
    PS X (.Assign [.Name x pos'] (.ListComp elt [⟨tg, iter, ifs, 0⟩] sc pos) spos) (tAsg (tComp wi n fr g tc te) (gName i)) := by
  intro pins s σ H D I h
  rw [exec_Assign_Name_used _ _ _ _ hsw]
  refine wpAny_bind (wpAny_standAt (wpAny_bind ?_))
  show wpAny _ X.A (do let _ ← comprehension (.ListComp elt [⟨tg, iter, ifs, 0⟩] sc pos) sc X.env _ (newList []) false (eval iter X.env) (some (assign (.Name x pos') X.env))) _ _ s
  refine wpAny_bind (wpAny_mono (wpAny_comprehension_free (use := some (assign (.Name x pos') X.env)) (Q := fun _ s' => SP X pins D .next s') rfl hs (closure_ok S I.ok) S.kind S.own ?_) (fun _ s' hq => wpAny_pure (wpAny_pure hq)) fun _ _ e => e)
  refine thn (hit pins s σ H _ I h) fun v s1 h1 => thn h1 fun itv s2 h2 => ?_
  obtain ⟨it, fp, tn, J, H2, e, I2, T, st2, f2, q2⟩ := h2
  subst e
  refine comp_run (Q := fun x H1 => gName i x σ H1 D.nx) (RR := fun acc C => compPost (model X.prog X.w) X.A X.xe (some (assign (.Name x pos') X.env)) (fun _ s' => SP X pins D .next s') acc C) hc S (hg pins) (hi pins) (he pins) I2 T st2 f2 q2 fun D' C H' s' I' fC hm q => ?_
  obtain ⟨m, hm⟩ := hm
  show wpAny _ X.A (assign (.Name x pos') X.env (.ref D')) _ _ _
  refine wpAny_assign_Name (store_ok2 I' hN hi' hx (v := .ref D') rfl (fun s'' I'' ch => ?_) hf)
  obtain ⟨a, hsb, ha⟩ := ch
  have hne : C ≠ a := by
    rcases ha with z | z
    · rw [z]; exact fC.2.1
    · exact fun z' => fC.2.2.2.2.1 x a z z'.symm
  exact ⟨m, hm.sameBut hsb hne, fun h' hs' => ⟨_, H', I''.turned (t' := s''.toks) (fun b o hb e => (hs'.2 b hb).trans e) fC.1 fC.2.1 fC.2.2.2.1 fC.2.2.2.2.1 fC.2.2.2.2.2, q⟩⟩
end

/-! ### the forms one uses -/
theorem comp_range {lo : Int} {n : Nat} {g : TG} {tc : TT} {te : TE} {σ : St} {H : Hp} {D : Addr} {Q : VK} (Pv : Nat → St → Hp → Prop) (h0 : Pv 0 σ (upd H D (.lst [])))
    (hs : ∀ i σ' H', i < n → Pv i σ' H' → g (.int (lo + i)) σ' H' fun σ3 H3 => tc σ3 H3 fun b H4 =>
      if b = true then te σ3 H4 fun y H5 => ∃ ys, H5 D = some (.lst ys) ∧ ys.length < sizeLine ∧ Pv (i + 1) σ3 (upd H5 D (.lst (ys ++ [y]))) else Pv (i + 1) σ3 H4) (hd : ∀ σ' H', Pv n σ' H' → Q (.ref D) H') :
    CompW (Itr lo n) g tc te D σ (upd H D (.lst [])) Q := by
  refine ⟨fun i m σ H => m = n - i ∧ i ≤ n ∧ Pv i σ H, ⟨n, by simp, Nat.zero_le _, h0⟩, ?_⟩
  rintro i m σ H ⟨rfl, hi, p⟩
  by_cases hlt : i < n
  · refine .inr ⟨hlt, Pv (i + 1), fun σ' H' p' => ⟨n - (i + 1), by omega, rfl, hlt, p'⟩, fun x H' y => ?_⟩
    obtain ⟨e, y⟩ := y
    subst e y
    exact hs i σ _ hlt p
  · have e : i = n := by omega
    subst e
    exact .inl ⟨Nat.le_refl _, hd σ H p⟩
theorem comp_tup {K : PySem.W.Frag} {a : Addr} {xs : List V} {g : TG} {tc : TT} {te : TE} {σ : St} {H : Hp} {D : Addr} {Q : VK} (Pv : Nat → St → Hp → Prop) (h0 : Pv 0 σ (upd H D (.lst []))) (hl : ∀ i σ H, i ≤ xs.length → Pv i σ H → SqT K H a xs)
    (hs : ∀ i x σ' H', xs[i]? = some x → Pv i σ' H' → g x σ' H' fun σ3 H3 => tc σ3 H3 fun b H4 =>
      if b = true then te σ3 H4 fun y H5 => ∃ ys, H5 D = some (.lst ys) ∧ ys.length < sizeLine ∧ Pv (i + 1) σ3 (upd H5 D (.lst (ys ++ [y]))) else Pv (i + 1) σ3 H4) (hd : ∀ σ' H', Pv xs.length σ' H' → Q (.ref D) H') :
    CompW (Itt K a) g tc te D σ (upd H D (.lst [])) Q := by
  refine ⟨fun i m σ H => m = xs.length - i ∧ i ≤ xs.length ∧ Pv i σ H, ⟨xs.length, by simp, Nat.zero_le _, h0⟩, ?_⟩
  rintro i m σ H ⟨rfl, hi, p⟩
  have q := hl i σ H hi p
  by_cases hlt : i < xs.length
  · refine .inr ⟨⟨xs, xs[i], q, by simp [hlt]⟩, Pv (i + 1), fun σ' H' p' => ⟨xs.length - (i + 1), by omega, rfl, hlt, p'⟩, fun x H' y => ?_⟩
    obtain ⟨e, y⟩ := y
    subst e
    exact hs i x σ _ (y xs q) p
  · have e : i = xs.length := by omega
    subst e
    exact .inl ⟨⟨xs, q, Nat.le_refl _⟩, hd σ H p⟩
theorem comp_list {K : PySem.W.Frag} {a : Addr} {xs : List V} {g : TG} {tc : TT} {te : TE} {σ : St} {H : Hp} {D : Addr} {Q : VK} (Pv : Nat → St → Hp → Prop) (h0 : Pv 0 σ (upd H D (.lst []))) (hl : ∀ i σ H, i ≤ xs.length → Pv i σ H → SqL K H a xs)
    (hs : ∀ i x σ' H', xs[i]? = some x → Pv i σ' H' → g x σ' H' fun σ3 H3 => tc σ3 H3 fun b H4 =>
      if b = true then te σ3 H4 fun y H5 => ∃ ys, H5 D = some (.lst ys) ∧ ys.length < sizeLine ∧ Pv (i + 1) σ3 (upd H5 D (.lst (ys ++ [y]))) else Pv (i + 1) σ3 H4) (hd : ∀ σ' H', Pv xs.length σ' H' → Q (.ref D) H') :
    CompW (Itl K a) g tc te D σ (upd H D (.lst [])) Q := by
  refine ⟨fun i m σ H => m = xs.length - i ∧ i ≤ xs.length ∧ Pv i σ H, ⟨xs.length, by simp, Nat.zero_le _, h0⟩, ?_⟩
  rintro i m σ H ⟨rfl, hi, p⟩
  have q := hl i σ H hi p
  by_cases hlt : i < xs.length
  · refine .inr ⟨⟨xs, xs[i], q, by simp [hlt]⟩, Pv (i + 1), fun σ' H' p' => ⟨xs.length - (i + 1), by omega, rfl, hlt, p'⟩, fun x H' y => ?_⟩
    obtain ⟨e, y⟩ := y
    subst e
    exact hs i x σ _ (y xs q) p
  · have e : i = xs.length := by omega
    subst e
    exact .inl ⟨⟨xs, q, Nat.le_refl _⟩, hd σ H p⟩
end L2
namespace L2
open PySem PySem.Spec PyProof.Rows
/-! ### names, by facts shown once -/
noncomputable def VarOk (sc : Scope) (x : Str) : Prop := Vis sc x ∧ (x == ("__debug__" : Str)) = false ∧ (x == ("__classdict__" : Str)) = false
instance {sc : Scope} {x : Str} : Decidable (VarOk sc x) := by unfold VarOk Vis; exact inferInstance
instance {sc : Scope} {x : Str} : Decidable (Loc sc x) := by unfold Loc; exact inferInstance
theorem pvx {X : Cx} (i : Nat) {x : Str} {pos : Pos} (v : VarOk X.env.scope x) (hN : X.N[i]? = some x := by rfl) : PE X (.Name x pos) (tVar i) := pe_var hN v.1 v.2.1 v.2.2
noncomputable def VarC (sc : Scope) (x : Str) : Prop := (sc.names.lookup x = some .local ∨ sc.names.lookup x = some .free) ∧ (x == ("__debug__" : Str)) = false ∧ (x == ("__classdict__" : Str)) = false
instance {sc : Scope} {x : Str} : Decidable (VarC sc x) := by unfold VarC; exact inferInstance
theorem VarC.ok {sc : Scope} {env : Env} {x : Str} (h : VarC sc x) : VarOk (relabel sc env) x := by
  obtain ⟨h1, h2⟩ := h
  refine ⟨?_, h2⟩
  rcases h1 with h1 | h1
  · exact .inl (lookup_relabel_local h1)
  · rcases relabel_free (env := env) h1 with z | z
    · exact .inr (.inl z)
    · exact .inr (.inr z)
theorem relabel_glob {env : Env} : ∀ {names : List (Str × NameKind)} {x : Str}, names.lookup x = some .globalImplicit →
    (names.map fun (n, k) => if (k == NameKind.free && env.scope.kind == .function && env.kindOf n == some .cell) then (n, NameKind.cell) else (n, k)).lookup x = some .globalImplicit
  | [], _, h => by simp at h
  | (n, q) :: r, x, h => by
    have ih := @relabel_glob env r x
    rw [List.map_cons]
    cases hx : x == n with
    | true =>
      simp only [List.lookup_cons, hx, Option.some.injEq] at h
      subst h
      simp [List.lookup_cons, hx]
    | false =>
      simp only [List.lookup_cons, hx] at h
      by_cases hc : (q == NameKind.free && env.scope.kind == .function && env.kindOf n == some .cell) = true
      · simpa only [hc, if_true, List.lookup_cons, hx] using ih h
      · simpa only [hc, if_false, List.lookup_cons, hx, Bool.false_eq_true] using ih h
theorem glC {X : Cx} {N : List Str} {sc : Scope} {pins : List (Addr × Obj)} {C : Addr} {s₀ : Shared} {H₀ : Hp} {fp : List Addr} {x : Str} (h : sc.names.lookup x = some .globalImplicit) : Gl (cxComp X N sc pins C s₀ H₀ fp) x := relabel_glob h
theorem pgx {X : Cx} {i : Nat} {x : Str} {pos : Pos} (hN : X.N.Nodup) (hx : X.env.scope.names.lookup x = some .local) (hi : X.N[i]? = some x := by rfl) : PG X (.Name x pos) (gName i) := pg_name hN hi (.inl hx) (.inr hx)
theorem locC {sc : Scope} {env : Env} {x : Str} (h : sc.names.lookup x = some .local) : (relabel sc env).names.lookup x = some .local := lookup_relabel_local h
end L2

set_option maxRecDepth 100000
namespace L2
open PySem PySem.Spec PyProof.Rows

/-! ### // by a positive divisor of any written size -/
noncomputable def CDivB (_ j : Int) : Prop := 0 < j ∧ j.natAbs.log2 < 9000
theorem op_fdivB {X : Cx} : OpR X (binaryOp .FloorDiv) (rI CDivB fun i j => .int (i / j)) := opI fun i j _ _ _ _ _ hc q => by
  have h1 : (0 : Int) < j := hc.1
  exact floordiv_int (by omega) (by rw [Int.fdiv_eq_ediv_of_nonneg i (by omega)]; exact q) (.inl (PyProof.noPylong_of_log2 hc.2))

/-! ### values as data, and == of them -/
mutual
inductive DatV (K : PySem.W.Frag) (H : Hp) : V → PyData → Prop where
  | non : DatV K H .non .none
  | bl (b : Bool) : DatV K H (.bl b) (.bool b)
  | int (i : Int) : DatV K H (.int i) (.int i)
  | str (x : Str) : DatV K H (.str x) (.str x)
  | lst {a : Addr} {xs : List V} {ds : List PyData} (h : SqL K H a xs) (r : DatVs K H xs ds) : DatV K H (.ref a) (.list ds)
  | tup {a : Addr} {xs : List V} {ds : List PyData} (h : SqT K H a xs) (r : DatVs K H xs ds) : DatV K H (.ref a) (.tuple ds)
inductive DatVs (K : PySem.W.Frag) (H : Hp) : List V → List PyData → Prop where
  | nil : DatVs K H [] []
  | cons {x : V} {d : PyData} {xs : List V} {ds : List PyData} (h : DatV K H x d) (r : DatVs K H xs ds) : DatVs K H (x :: xs) (d :: ds)
end
theorem datVs_ints {K : PySem.W.Frag} {H : Hp} : ∀ ns : List Int, DatVs K H (ns.map V.int) (ns.map PyData.int)
  | [] => .nil
  | n :: r => .cons (.int n) (datVs_ints r)
theorem datVs_strs {K : PySem.W.Frag} {H : Hp} : ∀ ns : List Str, DatVs K H (ns.map V.str) (ns.map PyData.str)
  | [] => .nil
  | n :: r => .cons (.str n) (datVs_strs r)

section
variable {X : Cx} {pins : List (Addr × Obj)} {σ : St} {H : Hp} {s : Shared}
mutual
theorem DatV.reads (I : Inv X pins σ H s) : ∀ {x : V} {d : PyData} {u : Value}, DatV X.K H x d → RelV x u → ∃ as, Reads s.heap u d as
  | _, _, _, .non, r => by cases (show _ = Value.none from r); exact ⟨_, .none⟩
  | _, _, _, .bl b, r => by cases (show _ = Value.bool b from r); exact ⟨_, .bool b⟩
  | _, _, _, .int i, r => by obtain ⟨t, rfl⟩ := r; exact ⟨_, .int i t⟩
  | _, _, _, .str x, r => by obtain ⟨t, rfl⟩ := r; exact ⟨_, .str x t⟩
  | _, _, _, .lst h q, r => by
    cases (show _ = Value.ref _ from r)
    obtain ⟨its, rv, ⟨o, n, e, c, _, d⟩, _⟩ := I.list h
    obtain ⟨as, hr⟩ := DatVs.reads I q rv
    exact ⟨_, .list e c d (by simpa using hr)⟩
  | _, _, _, .tup h q, r => by
    cases (show _ = Value.ref _ from r)
    obtain ⟨its, rv, ⟨o, e, c, n, d⟩, _⟩ := I.tuple h
    obtain ⟨as, hr⟩ := DatVs.reads I q rv
    exact ⟨_, .tuple e c d (by simpa using hr)⟩
theorem DatVs.reads (I : Inv X pins σ H s) : ∀ {xs : List V} {ds : List PyData} {us : List Value}, DatVs X.K H xs ds → Vals xs us → ∃ as, ReadsAll s.heap us ds as
  | _, _, _, .nil, .nil => ⟨_, .nil⟩
  | _, _, _, .cons h r, .cons q t => by
    obtain ⟨as, h1⟩ := DatV.reads I h q
    obtain ⟨bs, h2⟩ := DatVs.reads I r t
    exact ⟨_, .cons h1 h2⟩
end
end
noncomputable def rEqD (K : PySem.W.Frag) (neg : Bool) : R2 := fun x y H Q => ∃ d e, DatV K H x d ∧ DatV K H y e ∧ SeqAt.shaped d = true ∧ SeqAt.shaped e = true ∧ Q (.bl (if neg then !PyData.eqv d e else PyData.eqv d e)) H
theorem op_eqD {X : Cx} (hu : X.A.units + 64 < cLine) : OpR X (compareOp .Eq) (rEqD X.K false) := by
  intro pins s σ H x y v u Q I rx ry h
  obtain ⟨d, e, hd, he, sd, se, q⟩ := h
  obtain ⟨as, h1⟩ := hd.reads I rx
  obtain ⟨bs, h2⟩ := he.reads I ry
  exact eq_dataH h1 h2 sd se hu ⟨.bl _, H, I, rfl, q⟩
theorem op_neD {X : Cx} (hu : X.A.units + 64 < cLine) : OpR X (compareOp .NotEq) (rEqD X.K true) := by
  intro pins s σ H x y v u Q I rx ry h
  obtain ⟨d, e, hd, he, sd, se, q⟩ := h
  obtain ⟨as, h1⟩ := hd.reads I rx
  obtain ⟨bs, h2⟩ := he.reads I ry
  exact ne_dataH h1 h2 sd se hu ⟨.bl _, H, I, rfl, q⟩

/-! ### sep.join(texts) -/
theorem strs_vals : ∀ {ts : List Str} {us : List Value}, Vals (ts.map V.str) us → ∃ l : List (Str × Tok), strValues l = us ∧ l.map (·.1) = ts
  | [], _, .nil => ⟨[], rfl, rfl⟩
  | x :: ts, _, .cons r t => by
    obtain ⟨k, rfl⟩ := r
    obtain ⟨l, h1, h2⟩ := strs_vals t
    exact ⟨(x, k) :: l, by rw [← h1]; rfl, by rw [← h2]; rfl⟩
noncomputable def rJoin (K : PySem.W.Frag) : V → List V → Hp → VK → Prop := fun x vs H Q => ∃ sep p ts, x = .str sep ∧ vs = [.ref p] ∧ (SqL K H p (ts.map V.str) ∨ SqT K H p (ts.map V.str)) ∧ JoinOk sep ts = true ∧ Q (.str (Txt.join sep ts)) H
theorem mt_join {X : Cx} : MtR X "str.join" (rJoin X.K) := by
  intro pins s σ H x xs v us Q I rx rs h
  obtain ⟨sep, p, ts, rfl, rfl, hp, hok, q⟩ := h
  obtain ⟨t, rfl⟩ := rx
  obtain ⟨u, rfl, ru⟩ := Vals.one rs
  cases (show u = Value.ref p from ru)
  rcases hp with hp | hp
  · obtain ⟨its, rv, pl, _⟩ := I.list hp
    obtain ⟨l, h1, h2⟩ := strs_vals rv
    subst h1
    exact SC.join pl.isList h2 hok fun t' k => ⟨.str _, H, I.tok k, ⟨t', rfl⟩, q⟩
  · obtain ⟨its, rv, ⟨o, e, c, n, d⟩, _⟩ := I.tuple hp
    obtain ⟨l, h1, h2⟩ := strs_vals rv
    subst h1
    subst h2
    unfold JoinOk at hok
    rw [Bool.not_eq_true'] at hok
    exact call_meets F.slot_str_join (typeIs_str _ _ _) F.entry_str_join (F.args_str_join_2 _ _) (meets_str_join_tuple sep t p l hok)
      ⟨⟨o, n, e, c, d⟩, post_join l ⟨joinFit_length hok, fun t' k => ⟨.str _, H, I.tok k, ⟨t', rfl⟩, q⟩⟩⟩

/-! ### range(a, b, c) with a written c above 0 -/

/-! ### isinstance(x, T), T a built-in class -/
theorem call_isi {X : Cx} : CallR X (.builtin "isinstance") (fun xs H Q => ∃ x T t b, xs = [x, .ty T] ∧ TyOf X.K H x t ∧ PySem.W.kitOne X.K t (.type T) = some b ∧ Q (.bl b) H) := by
  intro pins s σ H xs us Q I r h
  obtain ⟨x, T, t, b, rfl, ty, e, q⟩ := h
  obtain ⟨u, v, rfl, r1, r2⟩ := Vals.two r
  cases (show v = Value.type T from r2)
  exact isinst_ok I r1 ty e fun tk => ⟨.bl b, H, I.tok tk, rfl, q⟩

/-! ### a dict of the module's top, keys texts -/
noncomputable def Tab (P : Program) (w : World) (K : PySem.W.Frag) (a : Addr) (D : List (Str × PyData)) : Prop := ∀ h : Heap, K.In h → StrTab P w h a (D.map fun p => (PyData.str p.1, p.2))
theorem tab_mk {P : Program} {w : World} {K : PySem.W.Frag} {a : Addr} {D : List (Str × PyData)} (e : PyProof.Rows.KTD.tabLook PyProof.Rows.KTD.flatLooks (fun b => K.lookup b) a D = true) (n : (D.map (·.1)).Nodup)
    (q : PyProof.Rows.KTD.hashesOf (fun b => K.lookup b) a = D.map fun p => (PySem.strKind P w).hash p.1) : Tab P w K a D := fun _ x => PySem.W.kt_tab_in P w x e n q
noncomputable def flatV? : PyData → Option V
  | .none => some .non
  | .bool b => some (.bl b)
  | .int i => some (.int i)
  | .str x => some (.str x)
  | _ => Option.none
theorem flat_rel {d : PyData} {v : V} {u : Value} (h : flatV? d = some v) (f : PyProof.V.Flat u d) : RelV v u := by
  cases d with
  | none => cases h; cases f {}; rfl
  | bool b => cases h; cases f {}; rfl
  | int i => cases h; exact f.int_inv
  | str x => cases h; exact f.str_inv
  | list _ => cases h
  | tuple _ => cases h
  | dict _ => cases h
noncomputable def rTab (a : Addr) (D : List (Str × PyData)) : R2 := fun x y H Q => ∃ k d v, x = .ref a ∧ y = .str k ∧ PySem.Spec.lookup (.str k) (D.map fun p => (PyData.str p.1, p.2)) = some d ∧ flatV? d = some v ∧ Q v H
theorem ix_tab {X : Cx} {a : Addr} {D : List (Str × PyData)} (T : Tab X.prog X.w X.K a D) : IxR X (rTab a D) := by
  intro value slice pins s σ H x y v u Q I rx ry h hs
  obtain ⟨k, d, z, rfl, rfl, hl, hf, q⟩ := h
  cases (show v = Value.ref a from rx)
  obtain ⟨t, rfl⟩ := ry
  obtain ⟨lo, kvs, hd, hfp⟩ := T _ I.kIn
  obtain ⟨w', hv, hfl⟩ := hfp.of_lookup PyProof.V.same_str hl
  refine subscriptTail_builtinR (x := w') hd.typeIs F.slot_dict_getitem.lookup ?_ hs
  exact wpAny_getItem_of (strKind_is X.prog X.w k t) hd.mapOf hv ⟨rfl, z, H, I.tok _, flat_rel hf hfl, q⟩
noncomputable def rInTab (a : Addr) (D : List (Str × PyData)) (neg : Bool) : R2 := fun x y H Q => ∃ k, x = .str k ∧ y = .ref a ∧ Q (.bl (if neg then !(PySem.Spec.lookup (.str k) (D.map fun p => (PyData.str p.1, p.2))).isSome else (PySem.Spec.lookup (.str k) (D.map fun p => (PyData.str p.1, p.2))).isSome)) H
theorem op_inTab {X : Cx} {a : Addr} {D : List (Str × PyData)} (T : Tab X.prog X.w X.K a D) : OpR X (compareOp .In) (rInTab a D false) := by
  intro pins s σ H x y v u Q I rx ry h
  obtain ⟨k, rfl, rfl, q⟩ := h
  cases (show u = Value.ref a from ry)
  obtain ⟨t, rfl⟩ := rx
  exact in_strTab (T _ I.kIn) ⟨.bl _, H, I.tok _, rfl, q⟩
theorem bt_len : bootBuiltins "len" = some (.builtin "len") := by decide +kernel
theorem bt_isinstance : bootBuiltins "isinstance" = some (.builtin "isinstance") := by decide +kernel
theorem bt_sorted : bootBuiltins "sorted" = some (.builtin "sorted") := by decide +kernel
theorem bt_all : bootBuiltins "all" = some (.builtin "all") := by decide +kernel
theorem bt_int : bootBuiltins "int" = some (.type "int") := by decide +kernel
theorem bt_str : bootBuiltins "str" = some (.type "str") := by decide +kernel
theorem bt_bool : bootBuiltins "bool" = some (.type "bool") := by decide +kernel
theorem bt_list : bootBuiltins "list" = some (.type "list") := by decide +kernel
theorem bt_tuple : bootBuiltins "tuple" = some (.type "tuple") := by decide +kernel
theorem bt_dict : bootBuiltins "dict" = some (.type "dict") := by decide +kernel
theorem bt_set : bootBuiltins "set" = some (.type "set") := by decide +kernel
theorem bt_zip : bootBuiltins "zip" = some (.type "zip") := by decide +kernel
end L2

set_option maxRecDepth 100000
namespace L2
open PySem PySem.Spec PyProof.Rows
/-! ### the rules once more, their judgements as structures: the elaborator then looks at nothing else -/
structure QE (X : Cx) (e : Expr) (t : TE) : Prop where
  h : PE X e t
structure QT (X : Cx) (e : Expr) (t : TT) : Prop where
  h : PT X e t
structure QW (X : Cx) (e : Expr) (t : TT) : Prop where
  h : PW X e t
structure QA (X : Cx) (es : List Expr) (t : TA) : Prop where
  h : PA X es t
structure QS (X : Cx) (s : Stmt) (t : TS) : Prop where
  h : PS X s t
structure QSs (X : Cx) (s : List Stmt) (t : TS) : Prop where
  h : PSs X s t
structure QG (X : Cx) (e : Expr) (t : TG) : Prop where
  h : PG X e t
structure QGs (X : Cx) (es : List Expr) (t : TGs) : Prop where
  h : PGs X es t
structure QI (X : Cx) (tg e : Expr) (t : TI) : Prop where
  h : PI X tg e t
structure QO (X : Cx) (e : Option Expr) (t : TO) : Prop where
  h : PO X e t
structure QIfs (X : Cx) (es : List Expr) (t : TT) : Prop where
  h : PIfs X es t
structure QPs (X : Cx) (pos : Pos) (ks : List (Option Expr)) (vs : List Expr) (t : List (TE × TE)) : Prop where
  h : PPs X pos ks vs t
structure QOp (X : Cx) (f : Value → Value → Sem Value) (r : R2) : Prop where
  h : OpR X f r
structure QIx (X : Cx) (r : R2) : Prop where
  h : IxR X r
structure QSl (X : Cx) (r : V → Option Int → Option Int → Hp → VK → Prop) : Prop where
  h : SlR X r
structure QSet (X : Cx) (r : TSet) : Prop where
  h : PSet X r
structure QMt (X : Cx) (id : String) (r : V → List V → Hp → VK → Prop) : Prop where
  h : MtR X id r
structure QCall (X : Cx) (f : Value) (r : List V → Hp → VK → Prop) : Prop where
  h : CallR X f r
section
variable {X : Cx} {a b c e : Expr} {es : List Expr} {ta tb te : TE} {tA tB' : TT} {pos p : Pos} {x : Str}
theorem qe_var (i : Nat) (v : VarOk X.env.scope x) (hN : X.N[i]? = some x := by rfl) : QE X (.Name x pos) (tVar i) := ⟨pvx i v hN⟩
theorem qe_int {i j pos} : QE X (.Constant (.int i) j pos) (tC (.int i)) := ⟨pe_int⟩
theorem qe_bl {b j pos} : QE X (.Constant (.bool b) j pos) (tC (.bl b)) := ⟨pe_bl⟩
theorem qe_str {x j pos} : QE X (.Constant (.str x) j pos) (tC (.str x)) := ⟨pe_str⟩
theorem qe_glob {v : V} {u : Value} (hg : Gl X x) (hm : X.mg x = some u) (r : RelV v u) (hd : (x == ("__debug__" : Str)) = false) : QE X (.Name x pos) (tC v) := ⟨pe_glob hg hm r hd⟩
theorem qe_bltn {v : V} {u : Value} (hg : Gl X x) (hm : X.mg x = none) (hv : bootBuiltins x = some u) (r : RelV v u) (hn : x ≠ "__name__") (hd : (x == ("__debug__" : Str)) = false) : QE X (.Name x pos) (tC v) := ⟨pe_bltn hg hm hv r hn hd⟩
theorem qe_op {op : Operator} {r : R2} (ho : QOp X (binaryOp op) r) (ha : QE X a ta) (hb : QE X b tb) : QE X (.BinOp a op b pos) (tOp r ta tb) := ⟨pe_op ho.h ha.h hb.h⟩
theorem qe_cmp {op : CmpOp} {r : R2} (ho : QOp X (compareOp op) r) (ha : QE X a ta) (hb : QE X b tb) (hm : behindInMarks op b = false) : QE X (.Compare a [op] [b] pos) (tOp r ta tb) := ⟨pe_cmpR ho.h ha.h hb.h hm⟩
theorem qt_cmp {op : CmpOp} {r : R2} (ho : QOp X (compareOp op) r) (ha : QE X a ta) (hb : QE X b tb) (hm : behindInMarks op b = false) : QT X (.Compare a [op] [b] pos) (tTest (tOp r ta tb)) := ⟨pt_cmpR ho.h ha.h hb.h hm⟩
theorem qt_val (h : QE X e te) (he : ∀ whole, isTrue e X.env whole = (do let v ← whole; standAt e.pos; holding [v] (truthy v)) := by intro _; rfl) : QT X e (tB te) := ⟨pt_val h.h he⟩
theorem qt_truth (ha : QE X a ta) (he : ∀ whole, isTrue a X.env whole = (do let v ← whole; standAt a.pos; holding [v] (truthy v)) := by intro _; rfl) : QT X a (fun σ H Q => ta σ H fun x H1 => ∃ k, TruV X.K x H1 k ∧ Q k H1) := ⟨pt_truth ha.h he⟩
theorem qt_not (ha : QT X a tA) : QT X (.UnaryOp .Not a pos) (tNot tA) := ⟨pt_not ha.h⟩
theorem qe_not (ha : QE X a ta) : QE X (.UnaryOp .Not a pos) (tNotV ta) := ⟨pe_not ha.h⟩
theorem qw_or1 (ha : QT X a tA) : QW X (.BoolOp .Or [a] pos) tA := ⟨pw_or1 ha.h⟩
theorem qw_or {rest : List Expr} (ha : QT X a tA) (hb : QW X (.BoolOp .Or (b :: rest) pos) tB') : QW X (.BoolOp .Or (a :: b :: rest) pos) (tOr tA tB') := ⟨pw_or ha.h hb.h⟩
theorem qt_w (h : QW X e tA) : QT X e tA := ⟨h.h.pt⟩
theorem qe_one {op} (h : QE X a ta) : QE X (.BoolOp op [a] pos) ta := ⟨pe_one h.h⟩
theorem qe_and {rest : List Expr} (ha : QE X a ta) (hb : QE X (.BoolOp .And (b :: rest) pos) tb) : QE X (.BoolOp .And (a :: b :: rest) pos) (tAndV ta tb) := ⟨pe_and ha.h hb.h⟩
theorem qa_nil : QA X [] tNil := ⟨pa_nil⟩
theorem qa_cons {t : TA} (ha : QE X e te) (hr : QA X es t) (hs : starEach (e :: es) X.env = (false, eval e X.env) :: starEach es X.env := by rfl) : QA X (e :: es) (tCons te t) := ⟨pa_cons ha.h hr.h hs⟩
theorem qe_tup {x1} {t : TA} (h : QA X es t) : QE X (.Tuple es x1 pos) (tTup t) := ⟨pe_tup h.h⟩
theorem qe_lst {t : TA} (h : QA X es t) : QE X (.List es pos) (tLst t) := ⟨pe_lst h.h⟩
theorem qe_ix {r : R2} (hr : QIx X r) (ha : QE X a ta) (hb : QE X b tb) (hs : PlainIx b := by intro _ _; rfl) : QE X (.Subscript a b pos) (tOp r ta tb) := ⟨pe_ix hr.h ha.h hb.h hs⟩
theorem qo_none : QO X none tNoPart := ⟨po_none⟩
theorem qo_some (h : QE X e te) : QO X (some e) (tPart te) := ⟨po_some h.h⟩
theorem qe_slice {r : V → Option Int → Option Int → Hp → VK → Prop} {lo hi : Option Expr} {tl th : TO} {p2 : Pos} (hr : QSl X r) (he : QE X e te) (hl : QO X lo tl) (hu : QO X hi th) : QE X (.Subscript e (.Slice lo hi none p2) pos) (tSl r te tl th) := ⟨pe_slice hr.h he.h hl.h hu.h⟩
theorem qp_nil : QPs X pos [] [] [] := ⟨pps_nil⟩
theorem qp_cons {k v : Expr} {ks : List (Option Expr)} {vs : List Expr} {tk tv : TE} {trs : List (TE × TE)} (hk : QE X k tk) (hv : QE X v tv) (hr : QPs X pos ks vs trs) : QPs X pos (some k :: ks) (v :: vs) ((tk, tv) :: trs) := ⟨pps_cons hk.h hv.h hr.h⟩
theorem qe_disp {keys : List (Option Expr)} {values : List Expr} {trs : List (TE × TE)} (h : QPs X pos keys values trs) (hall : keys.all (·.isSome) = true := by rfl) (hl : keys.length = values.length := by rfl) (h1 : keys ≠ [] := by intro z; cases z) (h2 : keys.length ≤ 15 := by decide) : QE X (.Dict keys values pos) (tDisp trs) := ⟨pe_disp h.h hall hl h1 h2⟩
theorem qe_call {CX : CXT} {k : Nat} {f : Addr} {fd : FuncData} {ps : List Str} {sp : Sp} {dvs : List V} {ds : List Value} {E : XK} {t : TA} (F : FnOk X.prog X.w X.K X.mg X.base CX k f fd ps sp) (hr : Room k X.A) (hg : Gl X x) (hm : X.mg x = some (.ref f)) (hk : PySem.W.keepIn X.K (.ref f) = true) (hb : Binds X.K fd ps ds) (hd : Vals dvs ds) (hx : Passes CX X E)
    (ha : QA X (e :: es) t) (hdb : (x == ("__debug__" : Str)) = false) (he : starEach (e :: es) X.env = (false, eval e X.env) :: starEach es X.env := by rfl) (hpl : (backTo pos (starEach es X.env)).any (·.1) = false := by rfl) :
    QE X (.Call (.Name x p) (e :: es) [] pos) (tCall sp dvs E t) := ⟨pe_call F hr hg hm hk hb hd hx ha.h hdb he hpl⟩
theorem qe_callB {id : String} {r : List V → Hp → VK → Prop} {t : TA} (hc : QCall X (.builtin id) r) (hg : Gl X x) (hm : X.mg x = none) (hv : bootBuiltins x = some (.builtin id)) (ha : QA X (e :: es) t) (hn : x ≠ "__name__") (hdb : (x == ("__debug__" : Str)) = false)
    (he : starEach (e :: es) X.env = (false, eval e X.env) :: starEach es X.env := by rfl) (hpl : (backTo pos (starEach es X.env)).any (·.1) = false := by rfl) : QE X (.Call (.Name x p) (e :: es) [] pos) (tCB r t) := ⟨pe_callB hc.h hg hm hv ha.h hn hdb he hpl⟩
theorem qe_callTy {T : String} {r : List V → Hp → VK → Prop} {t : TA} (hc : QCall X (.type T) r) (hg : Gl X x) (hm : X.mg x = none) (hv : bootBuiltins x = some (.type T)) (ha : QA X (e :: es) t) (hn : x ≠ "__name__") (hdb : (x == ("__debug__" : Str)) = false)
    (he : starEach (e :: es) X.env = (false, eval e X.env) :: starEach es X.env := by rfl) (hpl : (backTo pos (starEach es X.env)).any (·.1) = false := by rfl) : QE X (.Call (.Name x p) (e :: es) [] pos) (tCB r t) := ⟨pe_callTy hc.h hg hm hv ha.h hn hdb he hpl⟩
theorem qe_bm0 {o : Expr} {to : TE} {name : Str} {apos cpos : Pos} {T id : String} {r : V → List V → Hp → VK → Prop} (pa : PlainAttrs T) (slot : Slot T name id) (hty : typeOf (.builtin id) = pure (.type "method_descriptor")) (hm : QMt X id r) (ho : QE X o to)
    (hbase : attributeBase o name X.env (eval o X.env) = eval o X.env := by rfl) (hline : (apos.endLine == cpos.line) = true := by rfl) : QE X (.Call (.Attribute o name apos) [] [] cpos) (tBM0 X.K T r to) := ⟨pe_bm0 pa slot hty hm.h ho.h hbase hline⟩
theorem qe_bm {o : Expr} {to : TE} {name : Str} {apos cpos : Pos} {T id : String} {r : V → List V → Hp → VK → Prop} {t : TA} (pa : PlainAttrs T) (slot : Slot T name id) (hty : typeOf (.builtin id) = pure (.type "method_descriptor")) (hm : QMt X id r) (ho : QE X o to) (ha : QA X (e :: es) t)
    (hbase : attributeBase o name X.env (eval o X.env) = eval o X.env := by rfl)
    (hfew : ((backTo cpos (starEach (e :: es) X.env)).all (fun x => !x.1) && (backToKw cpos (keywordEach [] X.env)).all (fun x => x.1.isSome)
      && decide ((e :: es).length + ([] : List Keyword).length + (if ([] : List Keyword).isEmpty then 0 else 1) < 30)) = true := by rfl)
    (hline : (apos.endLine == cpos.line) = true := by rfl) (hs : starEach (e :: es) X.env = (false, eval e X.env) :: starEach es X.env := by rfl) (hplain : (backTo cpos (starEach es X.env)).any (·.1) = false := by rfl) :
    QE X (.Call (.Attribute o name apos) (e :: es) [] cpos) (tBM X.K T r to t) := ⟨pe_bm pa slot hty hm.h ho.h ha.h hbase hfew hline hs hplain⟩
theorem qe_comp {n : Nat} {fr : List Nat} {N : List Str} {sc : Scope} {elt tg iter : Expr} {ifs : List Expr} {wi : TI} {g : TG} {tc : TT} (hc : X.calm = true) (S : CScope X n fr N sc) (hit : QI X tg iter wi)
    (hg : ∀ pins C s₀ H₀ fp, QG (cxComp X N sc pins C s₀ H₀ fp) tg g) (hi : ∀ pins C s₀ H₀ fp, QIfs (cxComp X N sc pins C s₀ H₀ fp) ifs tc) (he : ∀ pins C s₀ H₀ fp, QE (cxComp X N sc pins C s₀ H₀ fp) elt te)
    (hs : ∀ x, foldedSetIterable iter X.env x = pure x := by intro _; rfl) : QE X (.ListComp elt [⟨tg, iter, ifs, 0⟩] sc pos) (tComp wi n fr g tc te) :=
  ⟨pe_comp hc S hit.h (fun a b c d e => (hg a b c d e).h) (fun a b c d e => (hi a b c d e).h) (fun a b c d e' => (he a b c d e').h) hs⟩
theorem qs_setcomp {i : Nat} {pos' spos : Pos} {n : Nat} {fr : List Nat} {N : List Str} {sc : Scope} {elt tg iter : Expr} {ifs : List Expr} {wi : TI} {g : TG} {tc : TT} (hc : X.calm = true) (hN : X.N.Nodup) (hi' : X.N[i]? = some x) (hx : Loc X.env.scope x) (S : CScope X n fr N sc) (hit : QI X tg iter wi)
    (hg : ∀ pins C s₀ H₀ fp, QG (cxComp X N sc pins C s₀ H₀ fp) tg g) (hi : ∀ pins C s₀ H₀ fp, QIfs (cxComp X N sc pins C s₀ H₀ fp) ifs tc) (he : ∀ pins C s₀ H₀ fp, QE (cxComp X N sc pins C s₀ H₀ fp) elt te)
    (hsw : swapsWith (.ListComp elt [⟨tg, iter, ifs, 0⟩] sc pos) (some (.Name x pos')) spos.line X.env = pure true)
    (hs : ∀ x, foldedSetIterable iter X.env x = pure x := by intro _; rfl) (hf : X.fn x = true ∨ X.env.scope.names.lookup x = some .local := by first | exact .inl rfl | exact .inr rfl | assumption) :
    QS X (.Assign [.Name x pos'] (.ListComp elt [⟨tg, iter, ifs, 0⟩] sc pos) spos) (tAsg (tComp wi n fr g tc te) (gName i)) :=
  ⟨ps_setcomp hc hN hi' hx S hit.h (fun a b c d e => (hg a b c d e).h) (fun a b c d e => (hi a b c d e).h) (fun a b c d e' => (he a b c d e').h) hsw hs hf⟩
theorem qi_nil : QIfs X [] tTrue := ⟨pifs_nil⟩
theorem qi_one {t : TT} (h : QT X c t) : QIfs X [c] t := ⟨pifs_one h.h⟩
theorem qi_list {tg l : Expr} {tl : TE} (hl : QE X l tl) : QI X tg l (iList X.K tl) := ⟨pi_list hl.h⟩
theorem qi_tup {tg l : Expr} {tl : TE} (hl : QE X l tl) : QI X tg l (iTup X.K tl) := ⟨pi_tup hl.h⟩
theorem qi_range1 {tg : Expr} {t : TA} (hg : Gl X "range") (hm : X.mg "range" = none) (ha : QA X [a] t) (hs : starEach [a] X.env = [(false, eval a X.env)] := by rfl) : QI X tg (.Call (.Name "range" p) [a] [] pos) (iRng1 t) := ⟨pi_range1 hg hm ha.h hs⟩
theorem qg_name {i : Nat} (hN : X.N.Nodup) (hi : X.N[i]? = some x) (hx : Loc X.env.scope x) (hf : X.fn x = true ∨ X.env.scope.names.lookup x = some .local := by first | exact .inl rfl | exact .inr rfl | assumption) : QG X (.Name x pos) (gName i) := ⟨pg_name hN hi hx hf⟩
theorem qgx {i : Nat} (hN : X.N.Nodup) (hx : X.env.scope.names.lookup x = some .local) (hi : X.N[i]? = some x := by rfl) : QG X (.Name x pos) (gName i) := ⟨pgx hN hx hi⟩
theorem qgs_nil : QGs X [] gNil := ⟨pgs_nil⟩
theorem qgs_cons {t : TG} {u : TGs} (h1 : QG X e t) (h2 : QGs X es u) (hs : (assignEach (e :: es) X.env).map (·.2) = assign e X.env :: (assignEach es X.env).map (·.2) := by rfl) : QGs X (e :: es) (gCons t u) := ⟨pgs_cons h1.h h2.h hs⟩
theorem qg_tup {k n : Nat} {t : TGs} (hc : X.calm = true) (h : QGs X es t) (hn : (assignEach es X.env).length = n := by rfl) (hst : (assignEach es X.env).findIdx? (·.1) = none := by rfl) : QG X (.Tuple es k pos) (gTup X.K n t) := ⟨pg_tup hc h.h hn hst⟩
theorem qg_sub {o i : Expr} {to ti : TE} {t : TSet} (ho : QE X o to) (hi : QE X i ti) (hs : QSet X t)
    (ha : ∀ v, assign (.Subscript o i pos) X.env v = (do
      let ov ← holding [v] (eval o X.env)
      let iv ← holding [v, ov] (eval i X.env)
      standAt pos
      holding [v, ov, iv] (setItem ov iv v)
      release [v, ov, iv] []) := by intro _; rfl) : QG X (.Subscript o i pos) (gSub to ti t) := ⟨pg_sub ho.h hi.h hs.h ha⟩
theorem qs_asg {tg : Expr} {g : TG} (he : QE X e te) (hg : QG X tg g) (hs : swapsWithSole [tg] e pos.line X.env = pure false := by rfl) (hw : swappedStores [tg] e X.env = pure none := by rfl)
    (h1 : (assignEach [tg] X.env).map (·.2) = [assign tg X.env] := by rfl) : QS X (.Assign [tg] e pos) (tAsg te g) := ⟨ps_asg he.h hg.h hs hw h1⟩
theorem qs_set {i : Nat} {pos' : Pos} (hN : X.N.Nodup) (hi : X.N[i]? = some x) (hx : Loc X.env.scope x) (he : QE X e te) (hs : swapsWith e (some (.Name x pos')) pos.line X.env = pure false := by rfl) (hf : X.fn x = true ∨ X.env.scope.names.lookup x = some .local := by first | exact .inl rfl | exact .inr rfl | assumption) :
    QS X (.Assign [.Name x pos'] e pos) (tAsg te (gName i)) := ⟨ps_set hN hi hx he.h hs hf⟩
theorem qs_dput {o i v : Expr} {td ty tv : TE} {pos' : Pos} (hu : X.A.units + 1 < cLine) (ho : QE X o td) (hi : QE X i ty) (hv : QE X v tv) (hs : swapsWith v (some (.Subscript o i pos')) pos.line X.env = pure false := by rfl) : QS X (.Assign [.Subscript o i pos'] v pos) (sDPut td ty tv) := ⟨ps_dput hu ho.h hi.h hv.h hs⟩
theorem qs_expr (he : QE X e te) (hs : swapsWith e none pos.line X.env = pure false := by rfl) : QS X (.Expr e pos) (tDrop te) := ⟨ps_expr he.h hs⟩
theorem qs_ret (he : QE X e te) : QS X (.Return (some e) pos) (tRet te) := ⟨ps_ret he.h⟩
theorem qs_if {s1 s2 : List Stmt} {t u : TS} (hc : QT X c tA) (ha : QSs X s1 t) (hb : QSs X s2 u) : QS X (.If c s1 s2 pos) (tIfS tA t u) := ⟨ps_if hc.h ha.h hb.h⟩
theorem qs_while {body : List Stmt} {tb : TS} (hp : PassesOwn (model X.prog X.w) X.A X.env X.xe) (hc : QT X c tA) (hb : QSs X body tb) : QS X (.While c body [] pos) (tWhile tA tb) := ⟨ps_while hp hc.h hb.h⟩
theorem qs_for {tg iter : Expr} {body : List Stmt} {wi : TI} {g : TG} {tb : TS} (hp : PassesOwn (model X.prog X.w) X.A X.env X.xe) (hc : X.calm = true) (hi : QI X tg iter wi) (hg : QG X tg g) (hb : QSs X body tb)
    (hs : ∀ x, foldedSetIterable iter X.env x = pure x := by intro _; rfl) : QS X (.For tg iter body [] pos) (tFor wi g tb) := ⟨ps_for hp hc hi.h hg.h hb.h hs⟩
theorem qss_nil : QSs X [] tNext := ⟨pss_nil⟩
theorem qss_cons {s : Stmt} {rest : List Stmt} {t u : TS} (h1 : QS X s t) (h2 : QSs X rest u) : QSs X (s :: rest) (tSeq t u) := ⟨pss_cons h1.h h2.h⟩
theorem qss_one {s : Stmt} {t : TS} (h1 : QS X s t) : QSs X [s] t := ⟨pss_one h1.h⟩
theorem qop_add : QOp X (binaryOp .Add) (rI0 fun i j => .int (i + j)) := ⟨op_add⟩
theorem qop_sub : QOp X (binaryOp .Sub) (rI0 fun i j => .int (i - j)) := ⟨op_sub⟩
theorem qop_mul : QOp X (binaryOp .Mult) (rI CMul fun i j => .int (i * j)) := ⟨op_mul⟩
theorem qop_mod : QOp X (binaryOp .Mod) (rI (fun _ j => 0 < j) fun i j => .int (i % j)) := ⟨op_mod⟩
theorem qop_fdiv : QOp X (binaryOp .FloorDiv) (rI CDivB fun i j => .int (i / j)) := ⟨op_fdivB⟩
theorem qop_pow : QOp X (binaryOp .Pow) (rI CPow fun i j => .int (i ^ j.toNat)) := ⟨op_pow⟩
theorem qop_cat : QOp X (binaryOp .Add) rCat := ⟨op_cat⟩
theorem qop_rep : QOp X (binaryOp .Mult) rRep := ⟨op_rep⟩
theorem qop_eq : QOp X (compareOp .Eq) rEq := ⟨op_eq⟩
theorem qop_ne : QOp X (compareOp .NotEq) rNe := ⟨op_ne⟩
theorem qop_lt : QOp X (compareOp .Lt) (rI0 fun i j => .bl (decide (i < j))) := ⟨op_lt⟩
theorem qop_le : QOp X (compareOp .LtE) (rI0 fun i j => .bl (decide (i ≤ j))) := ⟨op_le⟩
theorem qop_gt : QOp X (compareOp .Gt) (rI0 fun i j => .bl (decide (j < i))) := ⟨op_gt⟩
theorem qop_eqD (hu : X.A.units + 64 < cLine) : QOp X (compareOp .Eq) (rEqD X.K false) := ⟨op_eqD hu⟩
theorem qop_inTab {a : Addr} {D : List (Str × PyData)} (T : Tab X.prog X.w X.K a D) : QOp X (compareOp .In) (rInTab a D false) := ⟨op_inTab T⟩
theorem qix_list : QIx X (rIxL X.K) := ⟨ix_list⟩
theorem qix_tup : QIx X (rIxT X.K) := ⟨ix_tup⟩
theorem qix_str : QIx X rIxS := ⟨ix_str⟩
theorem qix_tab {a : Addr} {D : List (Str × PyData)} (T : Tab X.prog X.w X.K a D) : QIx X (rTab a D) := ⟨ix_tab T⟩
theorem qsl_list : QSl X (rSlL X.K) := ⟨sl_list⟩
theorem qsl_tup : QSl X (rSlT X.K) := ⟨sl_tup⟩
theorem qset_list : QSet X rSetL := ⟨set_list⟩
theorem qmt_append : QMt X "list.append" rAppend := ⟨mt_append⟩
theorem qmt_pop : QMt X "list.pop" rPop := ⟨mt_pop⟩
theorem qmt_join : QMt X "str.join" (rJoin X.K) := ⟨mt_join⟩
theorem qc_len_seq : QCall X (.builtin "len") (fun xs H Q => ∃ p ys, xs = [.ref p] ∧ (SqL X.K H p ys ∨ SqT X.K H p ys) ∧ Q (.int ys.length) H) := ⟨call_len_seq⟩
theorem qc_len_str : QCall X (.builtin "len") (fun xs H Q => ∃ z, xs = [.str z] ∧ z.length ≤ sizeLine ∧ Q (.int z.length) H) := ⟨call_len_str⟩
theorem qc_isi : QCall X (.builtin "isinstance") (fun xs H Q => ∃ x T t b, xs = [x, .ty T] ∧ TyOf X.K H x t ∧ PySem.W.kitOne X.K t (.type T) = some b ∧ Q (.bl b) H) := ⟨call_isi⟩
theorem qc_intB : QCall X (.type "int") (fun xs H Q => ∃ k, xs = [.bl k] ∧ Q (.int (if k then 1 else 0)) H) := ⟨fun pins s σ H xs us Q I r h => call_int1 pins s σ H xs us Q I r (.inr h)⟩
theorem qc_list_of : QCall X (.type "list") (fun xs H Q => ∃ p ys, xs = [.ref p] ∧ (SqL X.K H p ys ∨ SqT X.K H p ys) ∧ ∀ l, H l = none → Q (.ref l) (upd H l (.lst ys))) := ⟨call_list_of⟩
theorem qc_tuple_of : QCall X (.type "tuple") (fun xs H Q => ∃ p ys, xs = [.ref p] ∧ SqL X.K H p ys ∧ ∀ l, H l = none → Q (.ref l) (upd H l (.tup ys))) := ⟨fun pins s σ H xs us Q I r h => call_tuple_of pins s σ H xs us Q I r (let ⟨p, ys, e, hs, q⟩ := h; ⟨p, ys, e, .inl ⟨hs, q⟩⟩)⟩
theorem nomarkQ (b : Expr) {op : CmpOp} (h : op ≠ .In := by decide) (h2 : op ≠ .NotIn := by decide) : behindInMarks op b = false := nomark b h h2
/-! ### .. with the written part named (for a comprehension's block) -/
theorem qix_listK {K : PySem.W.Frag} (e : X.K = K) : QIx X (rIxL K) := e ▸ qix_list
end
end L2

set_option maxRecDepth 100000
namespace L2
open PySem PySem.Spec PyProof.Rows

/-! ### the signs of a text, walked -/
noncomputable def Its (x : Str) : It := ⟨fun i _ => i < x.cps.size, fun i H v H' => H' = H ∧ ∃ c, x.cps[i]? = some c ∧ v = .str ⟨#[c]⟩, fun i _ => x.cps.size ≤ i⟩
theorem turn_str {P : Program} {w : World} {K : PySem.W.Frag} {tg : Expr} (it : Addr) (x : Str) (t : Tok) : Turn P w K tg (Its x) [it] it (fun i h => h.IsStrIter it (strIterType x) x t i) where
  mem := by simp
  obj := fun i h st b hb => by
    have e : b = it := by simpa using hb
    subst e
    obtain ⟨o, e, c, d⟩ := st
    exact ⟨o, e, fun v z => by rw [d] at z; cases z⟩
  keep := fun i h h' st k => let ⟨o, ho, r⟩ := st; ⟨o, k it (by simp) o ho, r⟩
  item := by
    intro X hP hw hK hc i pins s σ H E I hf st hg
    subst hP hw hK
    obtain ⟨f0, f1, f2, f3, f4, f5⟩ := hf it (by simp)
    have fin : ∀ (v : Value) (h' : Heap) (tk : Nat), SignAt x i v → h'.IsStrIter it (strIterType x) x t (i + 1) → (∀ b o, b ∉ [it] → s.heap.get? b = some o → h'.get? b = some o) →
        ∃ u, some v = some u ∧ wpAny (model X.prog X.w) X.A (letOwnedTupleGo tg (.ref it) u) (fun _ s2 => ∃ y H', Inv X pins σ H' s2 ∧ RelV y u ∧ (Its x).yld i H y H' ∧ s2.heap.IsStrIter it (strIterType x) x t (i + 1) ∧ ∀ b ∈ [it], H' b = none) E { s with heap := h', toks := tk } := by
      intro v h' tk hv st' kk
      obtain ⟨c, u, hx, rfl⟩ := hv
      have I1 : Inv X pins σ H { s with heap := h', toks := tk } := I.turned (fun b o hb e => kk b o (by simpa using hb) e) f0 f1 f3 f4 f5
      obtain ⟨o, e, cc, d⟩ := id st'
      refine ⟨_, rfl, go_of (s := { s with heap := h', toks := tk }) (n := strIterType x) e cc d ?_ ⟨.str ⟨#[c]⟩, H, I1, ⟨u, rfl⟩, ⟨rfl, c, hx, rfl⟩, st', fun b hb => (hf b hb).1⟩⟩
      unfold strIterType
      split <;> decide
    cases ha : x.cps.all (· < 128) with
    | true =>
      have et : strIterType x = "str_ascii_iterator" := by simp [strIterType, ha]
      rw [et] at st fin ⊢
      exact (Walks.strAscii (prog := X.prog) (w := X.w) (I.ok.hd hc) it x t).item i s _ _ hg st fun v h' tk hv st' kk => fin v h' tk hv st' kk
    | false =>
      have et : strIterType x = "str_iterator" := by simp [strIterType, ha]
      rw [et] at st fin ⊢
      exact (Walks.strWide (prog := X.prog) (w := X.w) (I.ok.hd hc) it x t).item i s _ _ hg st fun v h' tk hv st' kk => fin v h' tk hv st' kk
  done := by
    intro X hP hw hK hc i pins s σ H E I hf st hg
    subst hP hw hK
    obtain ⟨f0, f1, f2, f3, f4, f5⟩ := hf it (by simp)
    have hg' : x.cps.size ≤ i := hg
    have hn : x.cps[i]? = none := by simpa using hg'
    cases ha : x.cps.all (· < 128) with
    | true =>
      have et : strIterType x = "str_ascii_iterator" := by simp [strIterType, ha]
      rw [et] at st
      exact wpAny_pyNext_ascii_end (I.ok.hd hc) st hn fun h' eb => ⟨rfl, I.turned (t' := s.toks) (fun b o hb e => eb b o hb e) f0 f1 f3 f4 f5⟩
    | false =>
      have et : strIterType x = "str_iterator" := by simp [strIterType, ha]
      rw [et] at st
      exact wpAny_pyNext_wide_end (I.ok.hd hc) st hn fun h' eb => ⟨rfl, I.turned (t' := s.toks) (fun b o hb e => eb b o hb e) f0 f1 f3 f4 f5⟩
  self := fun A i s Q E st h => by
    cases ha : x.cps.all (· < 128) with
    | true =>
      have et : strIterType x = "str_ascii_iterator" := by simp [strIterType, ha]
      rw [et] at st
      exact wpAny_pyIter_striter_ascii st h
    | false =>
      have et : strIterType x = "str_iterator" := by simp [strIterType, ha]
      rw [et] at st
      exact wpAny_pyIter_striter_wide st h
noncomputable def iStr (tl : TE) : TI := fun σ H R => tl σ H fun v H1 => ∃ x, v = .str x ∧ R (Its x) H1
theorem pi_str {X : Cx} {tg l : Expr} {tl : TE} (hl : PE X l tl) : PI X tg l (iStr tl) := by
  intro pins s σ H R I h
  refine thn (hl pins s σ H _ I h) fun v s1 ⟨y, H1, I1, r1, q1⟩ => ?_
  obtain ⟨x, e, q⟩ := q1
  subst e
  obtain ⟨t, rfl⟩ := r1
  refine wpAny_pyIter_strU ?_
  refine ⟨s1.heap.objs.size, [s1.heap.objs.size], _, _, H1, rfl, I1.kept (t' := s1.toks) fun b o e => Heap.get?_push_of_some _ e, turn_str _ x t, ⟨_, Heap.get?_push_size _ rfl, rfl, rfl⟩, fun b hb => ?_, q⟩
  have e : b = s1.heap.objs.size := by simpa using hb
  subst e
  exact I1.fpOk (Nat.le_refl _) (I1.hok.fresh (Nat.le_refl _))
theorem comp_str {x : Str} {g : TG} {tc : TT} {te : TE} {σ : L2.St} {H : Hp} {D : Addr} {Q : VK} (Pv : Nat → L2.St → Hp → Prop) (h0 : Pv 0 σ (upd H D (.lst [])))
    (hs : ∀ i c σ' H', x.cps[i]? = some c → Pv i σ' H' → g (.str ⟨#[c]⟩) σ' H' fun σ3 H3 => tc σ3 H3 fun b H4 =>
      if b = true then te σ3 H4 fun y H5 => ∃ ys, H5 D = some (.lst ys) ∧ ys.length < sizeLine ∧ Pv (i + 1) σ3 (upd H5 D (.lst (ys ++ [y]))) else Pv (i + 1) σ3 H4) (hd : ∀ σ' H', Pv x.cps.size σ' H' → Q (.ref D) H') :
    CompW (Its x) g tc te D σ (upd H D (.lst [])) Q := by
  refine ⟨fun i m σ H => m = x.cps.size - i ∧ i ≤ x.cps.size ∧ Pv i σ H, ⟨x.cps.size, by simp, Nat.zero_le _, h0⟩, ?_⟩
  rintro i m σ H ⟨rfl, hi, p⟩
  by_cases hlt : i < x.cps.size
  · refine .inr ⟨hlt, Pv (i + 1), fun σ' H' p' => ⟨x.cps.size - (i + 1), by omega, rfl, hlt, p'⟩, fun y H' z => ?_⟩
    obtain ⟨e, c, hc, rfl⟩ := z
    subst e
    exact hs i c σ _ hc p
  · have e : i = x.cps.size := by omega
    subst e
    exact .inl ⟨Nat.le_refl _, hd σ H p⟩

/-! ### all, sum -/
theorem call_allB {X : Cx} (hc : X.calm = true) : CallR X (.builtin "all") (fun xs H Q => ∃ (p : Addr) (bs : List Bool), xs = [V.ref p] ∧ SqL X.K H p (bs.map V.bl) ∧ Q (.bl (bs.all id)) H) := by
  intro pins s σ H xs us Q I r h
  obtain ⟨p, bs, rfl, hp, q⟩ := h
  obtain ⟨u, rfl, ru⟩ := Vals.one r
  cases (show u = Value.ref p from ru)
  obtain ⟨its, rv, pl, hz⟩ := I.list hp
  have hlt : p < s.heap.objs.size := by obtain ⟨o, n, e, _⟩ := pl; exact Heap.lt_size e
  have hlen : its.length = bs.length := by rw [← rv.length, List.length_map]
  refine call_all_walk (wpAny_pyIter_list pl.isList ?_)
  refine ⟨s.heap.objs.size, _, _, its.toArray.size, (fun i v => its.toArray[i]? = some v), _, (fun i => bs.getD i false), rfl, Walks.list (A := X.A.in1) (I.ok.hd hc) s.heap.objs.size p (Nat.ne_of_lt hlt) its.toArray, ⟨⟨_, Heap.get?_push_size _ rfl, rfl, rfl⟩, pl.isList.push _⟩, ?_, ?_⟩
  · intro i v s' Q' E' hv hq
    have hi : i < bs.length := by
      rw [← hlen]
      have := (Array.getElem?_eq_some_iff.mp hv).1
      simpa using this
    obtain ⟨u, hu, ru⟩ := rv.get (i := i) (x := V.bl bs[i]) (by rw [List.getElem?_map, List.getElem?_eq_getElem hi]; rfl)
    have hv' : its[i]? = some v := by simpa using hv
    rw [hu] at hv'
    cases hv'
    cases (show v = Value.bool _ from ru)
    refine wpAny_truthy_bool ?_
    have e : bs.getD i false = bs[i] := by rw [List.getD_eq_getElem?_getD, List.getElem?_eq_getElem hi]; rfl
    have hq' : Q' (bs.getD i false) s' := hq
    rw [e] at hq'
    exact hq'
  · intro h' tk hk
    have e : (List.range its.toArray.size).all (fun i => bs.getD i false) = bs.all id := by
      rw [List.size_toArray, hlen]
      rw [Bool.eq_iff_iff, List.all_eq_true, List.all_eq_true]
      constructor
      · intro h b hb
        obtain ⟨i, hi, rfl⟩ := List.mem_iff_getElem.mp hb
        have := h i (List.mem_range.mpr hi)
        rw [List.getD_eq_getElem?_getD, List.getElem?_eq_getElem hi] at this
        exact this
      · intro h i hi
        have hi' := List.mem_range.mp hi
        rw [List.getD_eq_getElem?_getD, List.getElem?_eq_getElem hi']
        exact h _ (List.getElem_mem hi')
    rw [e]
    refine ⟨.bl _, H, I.kept (t' := tk) fun b o eb => hk b o ?_ (Heap.get?_push_of_some _ eb), rfl, q⟩
    intro z
    have : b = s.heap.objs.size := by simpa using z
    exact absurd (Heap.lt_size eb) (by rw [this]; exact Nat.lt_irrefl _)

/-! ### a tuple, n times -/
/-! ### wrappers -/
section
variable {X : Cx} {a b c e : Expr} {ta tb tc te : TE} {pos : Pos}
theorem qop_in_str : QOp X (compareOp .In) (fun x y H Q => ∃ i j, x = .str i ∧ y = .str j ∧ Q (.bl (!(Builtin.Str.occurrences j i 0 j.length 1).isEmpty)) H) := ⟨op_in_str⟩
theorem qi_str {tg l : Expr} {tl : TE} (hl : QE X l tl) : QI X tg l (iStr tl) := ⟨pi_str hl.h⟩
theorem qc_allB (hc : X.calm = true) : QCall X (.builtin "all") (fun xs H Q => ∃ (p : Addr) (bs : List Bool), xs = [V.ref p] ∧ SqL X.K H p (bs.map V.bl) ∧ Q (.bl (bs.all id)) H) := ⟨call_allB hc⟩
theorem qt_chain {op op' : CmpOp} {r r' : R2} (ho : QOp X (compareOp op) r) (ho' : QOp X (compareOp op') r') (ha : QE X a ta) (hb : QE X b tb) (hc : QE X c tc)
    (hm : lastMarks [op, op'] [b, c] = false := by with_unfolding_all rfl) : QT X (.Compare a [op, op'] [b, c] pos) (tTest (tChain r r' ta tb tc)) := ⟨pt_chain ho.h ho'.h ha.h hb.h hc.h hm⟩
end
end L2

set_option maxRecDepth 100000
namespace RB
open PySem L2 PySem.Spec PyProof.Rows

/-! ### heaps that keep what stands -/
/-- all but S is kept -/
noncomputable def But (S : List Addr) (H H' : Hp) : Prop := ∀ b o, b ∉ S → H b = some o → H' b = some o
theorem But.refl (S : List Addr) (H : Hp) : But S H H := fun _ _ _ h => h
theorem But.trans {S : List Addr} {H H1 H2 : Hp} (a : But S H H1) (b : But S H1 H2) : But S H H2 := fun c o n h => b c o n (a c o n h)
theorem But.mono {S S' : List Addr} {H H' : Hp} (a : But S H H') (h : ∀ b ∈ S, b ∈ S') : But S' H H' := fun c o n q => a c o (fun z => n (h c z)) q
theorem But.new {S : List Addr} {H : Hp} {p : Addr} (o : HO) (h : H p = none) : But S H (upd H p o) := fun b u _ q => by rw [upd_ne (ne_of_none q h)]; exact q
theorem But.set {S : List Addr} {H : Hp} {p : Addr} (o : HO) (h : p ∈ S) : But S H (upd H p o) := fun b u n q => by rw [upd_ne (show b ≠ p from fun e => n (by rw [e]; exact h))]; exact q
theorem But.of_same {S : List Addr} {H H' : Hp} (h : Same H H') : But S H H' := fun b o _ q => h b o q
theorem same_new {H : Hp} {p : Addr} (o : HO) (h : H p = none) : Same H (upd H p o) := fun b u q => by rw [upd_ne (ne_of_none q h)]; exact q
/-- tuples are kept -/
noncomputable def Tups (H H' : Hp) : Prop := ∀ b xs, H b = some (.tup xs) → H' b = some (.tup xs)
theorem But.tups {S : List Addr} {H H' : Hp} (h : But S H H') (hS : ∀ b ∈ S, ∃ xs, H b = some (.lst xs)) : Tups H H' := fun b xs q => h b _ (fun z => by obtain ⟨ys, e⟩ := hS b z; rw [q] at e; cases e) q
theorem Same.tups {H H' : Hp} (h : Same H H') : Tups H H' := fun b xs q => h b _ q

/-! ### recipes -/
inductive Op where | plus | minus | times | most
  deriving DecidableEq
noncomputable def Op.word : Op → Str
  | .plus => "plus" | .minus => "minus" | .times => "times" | .most => "most"
inductive R where
  | num (n : Int) | rd (x : Str) | bin (op : Op) (a b : R) | pick (a b c : R) | cho (a : R) (ns : List Str)
noncomputable def R.depth : R → Nat
  | .num _ => 1
  | .rd _ => 1
  | .bin _ a b => max a.depth b.depth + 1
  | .pick a b c => max a.depth (max b.depth c.depth) + 1
  | .cho a _ => a.depth + 1
noncomputable def isLow (c : Nat) : Prop := 97 ≤ c ∧ c ≤ 122
noncomputable def GName (x : Str) : Prop := 1 ≤ x.length ∧ x.length ≤ 8 ∧ ∀ c ∈ x.cps.toList, isLow c
noncomputable def R.Good : R → Prop
  | .num n => n.natAbs < 10 ^ 40
  | .rd x => GName x
  | .bin _ a b => a.Good ∧ b.Good
  | .pick a b c => a.Good ∧ b.Good ∧ c.Good
  | .cho a ns => a.Good ∧ 1 ≤ ns.length ∧ ns.length ≤ 9 ∧ ∀ x ∈ ns, GName x
inductive IsR (H : Hp) : Addr → R → Prop where
  | num {a : Addr} {n : Int} (e : H a = some (.tup [.str "number", .int n])) : IsR H a (.num n)
  | rd {a : Addr} {x : Str} (e : H a = some (.tup [.str "read", .str x])) : IsR H a (.rd x)
  | bin {a b c : Addr} {op : Op} {r s : R} (e : H a = some (.tup [.str op.word, .ref b, .ref c])) (h1 : IsR H b r) (h2 : IsR H c s) : IsR H a (.bin op r s)
  | pick {a b c d : Addr} {r s t : R} (e : H a = some (.tup [.str "pick", .ref b, .ref c, .ref d])) (h1 : IsR H b r) (h2 : IsR H c s) (h3 : IsR H d t) : IsR H a (.pick r s t)
  | cho {a b c : Addr} {r : R} {ns : List Str} (e : H a = some (.tup [.str "choose", .ref b, .ref c])) (h1 : IsR H b r) (h2 : H c = some (.tup (ns.map V.str))) : IsR H a (.cho r ns)
theorem IsR.tups {H H' : Hp} (t : Tups H H') {a : Addr} {r : R} (h : IsR H a r) : IsR H' a r := by
  induction h with
  | num e => exact .num (t _ _ e)
  | rd e => exact .rd (t _ _ e)
  | bin e _ _ i1 i2 => exact .bin (t _ _ e) i1 i2
  | pick e _ _ _ i1 i2 i3 => exact .pick (t _ _ e) i1 i2 i3
  | cho e _ h2 i1 => exact .cho (t _ _ e) i1 (t _ _ h2)
theorem IsR.same {H H' : Hp} (t : Same H H') {a : Addr} {r : R} (h : IsR H a r) : IsR H' a r := h.tups (Same.tups t)
theorem R.depth_pos (r : R) : 1 ≤ r.depth := by cases r <;> simp [R.depth]


theorem joinOk {sep : Str} {ns : List Str} {k : Nat} (h : ∀ x ∈ ns, x.length ≤ k) (h2 : ns.length * k + ns.length * sep.length ≤ 16777216) : JoinOk sep ns = true := by
  have q := StrLaws.joinFits (sep := sep) (texts := ns) (B := k) h h2
  unfold JoinOk
  rw [q]; rfl

/-! ### decks -/
noncomputable def DeckAt (H : Hp) (d c : Addr) : Prop := ∃ (cells : List Int) (mode k : Int), d ≠ c ∧ H d = some (.lst [.ref c, .int mode, .int k]) ∧ H c = some (.lst (cells.map V.int)) ∧ cells ≠ [] ∧ cells.length ≤ 63 ∧ 0 ≤ k
theorem DeckAt.keep {S : List Addr} {H H' : Hp} {d c : Addr} (h : DeckAt H d c) (b : But S H H') (h1 : d ∉ S) (h2 : c ∉ S) : DeckAt H' d c := by
  obtain ⟨cells, mode, k, ne, e1, e2, r⟩ := h
  exact ⟨cells, mode, k, ne, b _ _ h1 e1, b _ _ h2 e2, r⟩
theorem DeckAt.same {H H' : Hp} {d c : Addr} (h : DeckAt H d c) (b : Same H H') : DeckAt H' d c := h.keep (S := []) (But.of_same b) (by simp) (by simp)
noncomputable def spDraw : Sp := fun vs H Q _ => ∃ d c many, vs = [.ref d, .int many] ∧ DeckAt H d c ∧ 0 < many ∧ many.natAbs.log2 < 9000 ∧ ∀ n H', 0 ≤ n → n < many → But [d, c] H H' → DeckAt H' d c → Q (.int n) H'
noncomputable def spName : Sp := fun vs H Q _ => ∃ d c, vs = [.ref d] ∧ DeckAt H d c ∧ ∀ x H', GName x → But [d, c] H H' → DeckAt H' d c → Q (.str x) H'
noncomputable def spNumber : Sp := fun vs H Q _ => ∃ d c, vs = [.ref d] ∧ DeckAt H d c ∧ ∀ n H', n.natAbs < 10 ^ 40 → But [d, c] H H' → DeckAt H' d c → Q (.int n) H'
noncomputable def spDeck (K : PySem.W.Frag) : Sp := fun vs H Q _ => ∃ (a : Addr) (ns : List Int), vs = [.ref a] ∧ SqL K H a (ns.map V.int) ∧ ns.length ≤ 63 ∧ ∀ d c H', Same H H' → H d = none → H c = none → DeckAt H' d c → Q (.ref d) H'
/-- law(script) is True -/
noncomputable def spLaw (K : PySem.W.Frag) : Sp := fun vs H Q _ => ∃ (a : Addr) (ns : List Int), vs = [.ref a] ∧ SqL K H a (ns.map V.int) ∧ ns.length ≤ 63 ∧ ∀ H', Q (.bl true) H'

/-! ### a def of the text -/
structure FnT (K : PySem.W.Frag) (mg : Str → Option Value) (x : Str) (st : Stmt) (ps : List Str) (f : Addr) (fd : FuncData) : Prop where
  F : Fun K x x st f fd
  b : Binds K fd ps []
  m : mg x = some (.ref f)
/-- none of these is a name of the text's own -/
structure Blt (mg : Str → Option Value) : Prop where
  b_len : mg "len" = none
  b_range : mg "range" = none
  b_str : mg "str" = none
  b_int : mg "int" = none
  b_list : mg "list" = none
  b_tuple : mg "tuple" = none
  b_isinstance : mg "isinstance" = none
  b_bool : mg "bool" = none
  b_dict : mg "dict" = none
  b_sum : mg "sum" = none
  b_all : mg "all" = none
  b_any : mg "any" = none
  b_max : mg "max" = none
  b_min : mg "min" = none
  b_sorted : mg "sorted" = none
  b_set : mg "set" = none
  b_enumerate : mg "enumerate" = none
  b_zip : mg "zip" = none
  b_reversed : mg "reversed" = none
  b_abs : mg "abs" = none
end RB
namespace RB
open PySem L2 PySem.Spec PyProof.Rows
theorem at_ok {xs : List Int} {i : Int} (h0 : 0 ≤ i) (h1 : i < ((xs.map V.int).length : Int)) : ∃ v j, atI (xs.map V.int) i = some (.int v) ∧ ixN (xs.map V.int).length i = some j ∧ j < xs.length ∧ ∀ u : Int, (xs.map V.int).set j (.int u) = (xs.set j u).map V.int := by
  have hl : (xs.map V.int).length = xs.length := List.length_map _
  obtain ⟨j, rfl⟩ := Int.eq_ofNat_of_zero_le h0
  have hj : j < xs.length := by omega
  refine ⟨xs[j], j, atI_nat (by rw [List.getElem?_map, List.getElem?_eq_getElem hj]; rfl), ?_, hj, fun u => ?_⟩
  · unfold ixN
    rw [if_pos h0, if_pos (by omega)]
    simp
  · rw [List.map_set]
end RB
namespace RB
open PySem L2 PySem.Spec PyProof.Rows
theorem But.upd {S : List Addr} {H H' : Hp} {p : Addr} (b : But S H H') (o : HO) (h : H p = none) : But S H (upd H' p o) := fun c u n q => by
  rw [upd_ne (ne_of_none q h)]; exact b c u n q
theorem DeckAt.fresh {H : Hp} {d c p : Addr} (h : DeckAt H d c) (hp : H p = none) : p ∉ [d, c] := by
  obtain ⟨cells, mode, k, ne, e1, e2, r⟩ := h
  intro z
  rcases List.mem_cons.mp z with z | z
  · rw [← z, hp] at e1; cases e1
  · have z' : p = c := by simpa using z
    rw [← z', hp] at e2; cases e2
theorem DeckAt.upd {H : Hp} {d c p : Addr} (h : DeckAt H d c) (o : HO) (hp : p ∉ [d, c]) : DeckAt (upd H p o) d c := by
  obtain ⟨cells, mode, k, ne, e1, e2, r⟩ := h
  have h1 : d ≠ p := fun z => hp (by simp [z])
  have h2 : c ≠ p := fun z => hp (by simp [z])
  exact ⟨cells, mode, k, ne, by rw [upd_ne h1]; exact e1, by rw [upd_ne h2]; exact e2, r⟩
theorem DeckAt.lists {H : Hp} {d c : Addr} (h : DeckAt H d c) : ∀ b ∈ [d, c], ∃ xs, H b = some (.lst xs) := by
  obtain ⟨cells, mode, k, ne, e1, e2, r⟩ := h
  intro b hb
  rcases List.mem_cons.mp hb with z | z
  · exact ⟨_, z ▸ e1⟩
  · have z' : b = c := by simpa using z
    exact ⟨_, z' ▸ e2⟩
theorem DeckAt.tups {H H' : Hp} {d c : Addr} (h : DeckAt H d c) (b : But [d, c] H H') : Tups H H' := b.tups h.lists
theorem deck_tups {H H' : Hp} {d c l : Addr} {xs : List V} (h : DeckAt H d c) (hl : H l = some (.lst xs)) (b : But [d, c, l] H H') : Tups H H' := b.tups fun p hp => by
  rcases List.mem_cons.mp hp with z | z
  · exact h.lists p (by simp [z])
  · rcases List.mem_cons.mp z with z | z
    · exact h.lists p (by simp [z])
    · have z' : p = l := by simpa using z
      exact ⟨_, z' ▸ hl⟩
instance (x : Str) : Decidable (GName x) := by unfold GName isLow; exact inferInstance
theorem six {n : Int} (h0 : 0 ≤ n) (h1 : n < 6) : ∃ x, atI [V.str "a", V.str "b", V.str "ab", V.str "x", V.str "y", V.str "zzzzzzzz"] n = some (.str x) ∧ GName x := by
  have h : n = 0 ∨ n = 1 ∨ n = 2 ∨ n = 3 ∨ n = 4 ∨ n = 5 := by omega
  rcases h with rfl | rfl | rfl | rfl | rfl | rfl
  · exact ⟨"a", rfl, by decide +kernel⟩
  · exact ⟨"b", rfl, by decide +kernel⟩
  · exact ⟨"ab", rfl, by decide +kernel⟩
  · exact ⟨"x", rfl, by decide +kernel⟩
  · exact ⟨"y", rfl, by decide +kernel⟩
  · exact ⟨"zzzzzzzz", rfl, by decide +kernel⟩
theorem letters_cps : (Str.ofString "abcdefghijklmnopqrstuvwxyz").cps.toList = (List.range 26).map (· + 97) := by decide +kernel
theorem letter {n : Int} (h0 : 0 ≤ n) (h1 : n < 26) : ∃ c, atI (Str.ofString "abcdefghijklmnopqrstuvwxyz").cps.toList n = some c ∧ isLow c := by
  obtain ⟨j, rfl⟩ := Int.eq_ofNat_of_zero_le h0
  refine ⟨j + 97, atI_nat ?_, ?_⟩
  · rw [letters_cps, List.getElem?_map, List.getElem?_range (by omega)]; rfl
  · unfold isLow; omega
theorem join_empty : ∀ ts : List Str, (Txt.join "" ts).cps.toList = (ts.map fun x => x.cps.toList).flatten := by
  intro ts
  have e : Txt.join "" ts = Str.join "" ts := StrLaws.glued_eq_join "" ts
  rw [e]
  induction ts with
  | nil => rfl
  | cons x r ih =>
    cases r with
    | nil => simp [Str.join]
    | cons y r =>
      show ((x.cps ++ ("" : Str).cps) ++ (Str.join "" (y :: r)).cps).toList = _
      rw [Array.toList_append, Array.toList_append, ih (StrLaws.glued_eq_join "" (y :: r))]
      have z : ("" : Str).cps.toList = [] := by decide +kernel
      rw [z]; simp
noncomputable def OneLow (x : Str) : Prop := ∃ c, x = ⟨#[c]⟩ ∧ isLow c
theorem join_name {ts : List Str} (h : ∀ x ∈ ts, OneLow x) (h1 : 1 ≤ ts.length) (h2 : ts.length ≤ 8) : GName (Txt.join "" ts) := by
  have q : ∀ l : List Str, (∀ x ∈ l, OneLow x) → ((l.map fun x => x.cps.toList).flatten).length = l.length ∧ ∀ c ∈ (l.map fun x => x.cps.toList).flatten, isLow c := by
    intro l
    induction l with
    | nil => intro _; simp
    | cons x r ih =>
      intro hl
      obtain ⟨c, rfl, hc⟩ := hl x List.mem_cons_self
      obtain ⟨i1, i2⟩ := ih fun y hy => hl y (List.mem_cons_of_mem _ hy)
      constructor
      · rw [List.map_cons, List.flatten_cons, List.length_append, i1, List.length_cons]
        show 1 + r.length = r.length + 1
        omega
      · intro c' hc'
        rw [List.map_cons, List.flatten_cons, List.mem_append] at hc'
        rcases hc' with z | z
        · have : c' = c := by simpa using z
          rw [this]; exact hc
        · exact i2 c' z
  obtain ⟨a, b⟩ := q ts h
  have hl : (Txt.join "" ts).length = ts.length := by
    rw [← a, ← join_empty]; simp [Str.length]
  refine ⟨by omega, by omega, fun c hc => ?_⟩
  rw [join_empty] at hc
  exact b c hc
end RB

namespace RB
open PySem L2 PySem.Spec PyProof.Rows
theorem never {P : Program} {w : World} {K : PySem.W.Frag} {mg : Str → Option Value} {base : Heap} {k : Nat} {f : Addr} {fd : FuncData} {ps : List Str} {sp : Sp} (no : ∀ vs H Q E, ¬ sp vs H Q E) : FnOk P w K mg base CX0 k f fd ps sp :=
  ⟨fun vs H Q E h => absurd h (no vs H Q E), fun A outer s H args us vs Q E _ _ _ _ h => absurd h (no vs H Q E)⟩
theorem five {n : Int} (h0 : 2 ≤ n) (h1 : n < 7) : ∃ op : Op, atI [V.str "plus", V.str "minus", V.str "times", V.str "most", V.str "plus"] (n - 2) = some (.str op.word) := by
  have h : n = 2 ∨ n = 3 ∨ n = 4 ∨ n = 5 ∨ n = 6 := by omega
  rcases h with rfl | rfl | rfl | rfl | rfl
  · exact ⟨.plus, rfl⟩
  · exact ⟨.minus, rfl⟩
  · exact ⟨.times, rfl⟩
  · exact ⟨.most, rfl⟩
  · exact ⟨.plus, rfl⟩
end RB
namespace RB
open PySem L2 PySem.Spec PyProof.Rows
end RB
namespace RB
open PySem L2 PySem.Spec PyProof.Rows
theorem cut63 {ns : List Int} (h : ns.length ≤ 63) : cutV (ns.map V.int) none (some 63) = ns.map V.int := by
  unfold cutV
  have e1 : HT.sIx (ns.map V.int).length 0 none = 0 := rfl
  have e2 : HT.sIx (ns.map V.int).length (ns.map V.int).length (some 63) = (ns.map V.int).length := by
    have := HT.sIx_nat (ns.map V.int).length (ns.map V.int).length 63
    rw [show ((63 : Nat) : Int) = 63 from rfl] at this
    rw [this, List.length_map]; omega
  rw [e1, e2, List.drop_zero, Nat.sub_zero, List.take_length]
theorem shaped_ints (ns : List Int) : SeqAt.shaped (.list (ns.map PyData.int)) = true := by
  simp [SeqAt.shaped, PyData.canLay0, PyData.canLayAll0, PyData.depth, PyData.depthAll, PySem.W.ke_canLayAll0, PySem.W.ke_depthAll]
end RB
namespace RB
open PySem L2 PySem.Spec PyProof.Rows
end RB
namespace RB
open PySem L2 PySem.Spec PyProof.Rows
theorem tups_set {H : Hp} {p : Addr} {xs : List V} (o : HO) (h : H p = some (.lst xs)) : Tups H (upd H p o) := fun b ys q => by
  rw [upd_ne (ne_of q h (by intro z; cases z))]; exact q
theorem same_updN {H H' : Hp} {p : Addr} (o : HO) (h : H p = none) (s : Same H H') : Same H (upd H' p o) := fun b u q => by
  rw [upd_ne (ne_of_none q h)]; exact s b u q
end RB
namespace RB
open PySem L2 PySem.Spec PyProof.Rows
theorem kit_same {K : PySem.W.Frag} (t : Value) : PySem.W.kitOne K t t = some true := by unfold PySem.W.kitOne; rw [if_pos (beq_self_eq_true t)]
end RB

set_option maxRecDepth 100000
namespace RB
open PySem L2 PySem.Spec PyProof.Rows

/-! ### any thing, and whether it is a recipe -/
inductive Th where
  | non | bl (b : Bool) | int (i : Int) | str (x : Str) | tup (xs : List Th) | oth (T : String)
mutual
inductive IsTh (K : PySem.W.Frag) (H : Hp) : V → Th → Prop where
  | non : IsTh K H .non .non
  | bl (b : Bool) : IsTh K H (.bl b) (.bl b)
  | int (i : Int) : IsTh K H (.int i) (.int i)
  | str (x : Str) : IsTh K H (.str x) (.str x)
  | tup {a : Addr} {vs : List V} {ts : List Th} (e : H a = some (.tup vs)) (h : IsThs K H vs ts) : IsTh K H (.ref a) (.tup ts)
  | oth {a : Addr} {T : String} (h : TyOf K H (.ref a) (.type T)) (hT : T = "list" ∨ T = "dict") (keep : ∀ H', Same H H' → TyOf K H' (.ref a) (.type T)) : IsTh K H (.ref a) (.oth T)
inductive IsThs (K : PySem.W.Frag) (H : Hp) : List V → List Th → Prop where
  | nil : IsThs K H [] []
  | cons {v : V} {t : Th} {vs : List V} {ts : List Th} (h : IsTh K H v t) (r : IsThs K H vs ts) : IsThs K H (v :: vs) (t :: ts)
end
mutual
theorem IsTh.same {K : PySem.W.Frag} {H H' : Hp} (s : Same H H') : ∀ {v : V} {t : Th}, IsTh K H v t → IsTh K H' v t
  | _, _, .non => .non
  | _, _, .bl b => .bl b
  | _, _, .int i => .int i
  | _, _, .str x => .str x
  | _, _, .tup e h => .tup (s _ _ e) (IsThs.same s h)
  | _, _, .oth h hT k => .oth (k _ s) hT fun H2 s2 => k _ (s.trans s2)
theorem IsThs.same {K : PySem.W.Frag} {H H' : Hp} (s : Same H H') : ∀ {vs : List V} {ts : List Th}, IsThs K H vs ts → IsThs K H' vs ts
  | _, _, .nil => .nil
  | _, _, .cons h r => .cons (IsTh.same s h) (IsThs.same s r)
end
theorem IsThs.length {K : PySem.W.Frag} {H : Hp} : ∀ {vs : List V} {ts : List Th}, IsThs K H vs ts → vs.length = ts.length
  | _, _, .nil => rfl
  | _, _, .cons _ r => congrArg (· + 1) (IsThs.length r)
theorem IsThs.get {K : PySem.W.Frag} {H : Hp} : ∀ {vs : List V} {ts : List Th} {i : Nat} {v : V}, IsThs K H vs ts → vs[i]? = some v → ∃ t, ts[i]? = some t ∧ IsTh K H v t
  | _, _, _, _, .nil, e => by simp at e
  | _, _, 0, _, .cons h _, e => by simp at e; subst e; exact ⟨_, rfl, h⟩
  | _, _, i + 1, v, .cons _ r, e => by
    obtain ⟨t, h1, h2⟩ := IsThs.get (i := i) (v := v) r (by simpa using e)
    exact ⟨t, by simpa using h1, h2⟩
noncomputable def tyTh : Th → String
  | .non => "NoneType" | .bl _ => "bool" | .int _ => "int" | .str _ => "str" | .tup _ => "tuple" | .oth T => T
theorem IsTh.ty {K : PySem.W.Frag} {H : Hp} {v : V} {t : Th} (h : IsTh K H v t) : TyOf K H v (.type (tyTh t)) := by
  cases h with
  | non => exact .non
  | bl b => exact .bl b
  | int i => exact .int i
  | str x => exact .str x
  | tup e _ => exact .tup e
  | oth h _ _ => exact h
noncomputable def tys : List String := ["NoneType", "bool", "int", "str", "tuple", "list", "dict"]
noncomputable def subT (t c : String) : Bool := t == c || (t == "bool" && c == "int")
/-- what isinstance tells of built-in classes -/
noncomputable def Kinds (K : PySem.W.Frag) : Prop := ∀ t ∈ tys, ∀ c ∈ tys, PySem.W.kitOne K (.type t) (.type c) = some (subT t c)
theorem kinds_mk {K : PySem.W.Frag} (h : (tys.all fun t => tys.all fun c => PySem.W.kitOne K (.type t) (.type c) == some (subT t c)) = true) : Kinds K := fun t ht c hc => by
  have h1 := List.all_eq_true.mp h t ht
  have h2 := List.all_eq_true.mp h1 c hc
  exact eq_of_beq h2
theorem ty_mem {K : PySem.W.Frag} {H : Hp} {v : V} {t : Th} (h : IsTh K H v t) : tyTh t ∈ tys := by
  cases h with
  | oth _ hT _ => rcases hT with rfl | rfl <;> simp [tyTh, tys]
  | _ => simp [tyTh, tys]
theorem IsTh.isi {K : PySem.W.Frag} {H : Hp} {v : V} {t : Th} (h : IsTh K H v t) (k : Kinds K) {c : String} (hc : c ∈ tys) : PySem.W.kitOne K (.type (tyTh t)) (.type c) = some (subT (tyTh t) c) := k _ (ty_mem h) _ hc

noncomputable def nameT : Th → Bool
  | .str x => decide (GName x)
  | _ => false
noncomputable def wholeT : Th → Bool
  | .int _ => true
  | _ => false
noncomputable def choiceT : Th → Bool
  | .tup xs => decide (1 ≤ xs.length) && decide (xs.length ≤ 9) && xs.all nameT
  | _ => false
/-- the recipes within, if it has a recipe's shape -/
noncomputable def shapeT : Th → Option (List Th)
  | .tup [.str k, x] => if k = "number" then (if wholeT x = true then some [] else none) else if k = "read" then (if nameT x = true then some [] else none) else none
  | .tup [.str k, x, y] => if k = "choose" then (if choiceT y = true then some [x] else none) else if k = "plus" ∨ k = "minus" ∨ k = "times" ∨ k = "most" then some [x, y] else none
  | .tup [.str k, x, y, z] => if k = "pick" then some [x, y, z] else none
  | _ => none
noncomputable def szN : Nat → Th → Nat
  | 0, _ => 1000
  | n + 1, t => match shapeT t with
    | none => 1000
    | some ks => 1 + (ks.map (szN n)).sum
theorem szN_pos (n : Nat) (t : Th) : 1 ≤ szN n t := by
  cases n with
  | zero => simp [szN]
  | succ n =>
    unfold szN
    split <;> omega
noncomputable def withinD : List (Str × PyData) := [("number", .int 0), ("read", .int 0), ("plus", .int 2), ("minus", .int 2), ("times", .int 2), ("most", .int 2), ("pick", .int 3), ("choose", .int 1)]
/-! ### contracts -/
/-- no text within is longer than the model's line -/
inductive ShortT : Th → Prop where
  | non : ShortT .non
  | bl (b : Bool) : ShortT (.bl b)
  | int (i : Int) : ShortT (.int i)
  | str {x : Str} (h : x.length ≤ sizeLine) : ShortT (.str x)
  | tup {ts : List Th} (h : ∀ t ∈ ts, ShortT t) : ShortT (.tup ts)
  | oth (T : String) : ShortT (.oth T)
theorem ShortT.of {ts : List Th} (h : ShortT (.tup ts)) : ∀ t ∈ ts, ShortT t := by cases h; assumption
theorem ShortT.len {x : Str} (h : ShortT (.str x)) : x.length ≤ sizeLine := by cases h; assumption
noncomputable def spWhole (K : PySem.W.Frag) : Sp := fun vs H Q _ => ∃ v t, vs = [v] ∧ IsTh K H v t ∧ Q (.bl (wholeT t)) H
noncomputable def spIsName (K : PySem.W.Frag) : Sp := fun vs H Q _ => ∃ v t, vs = [v] ∧ IsTh K H v t ∧ ShortT t ∧ ∀ H', Same H H' → Q (.bl (nameT t)) H'
instance (c : Nat) : Decidable (isLow c) := by unfold isLow; exact inferInstance
theorem low_iff (c : Nat) : (!(Builtin.Str.occurrences (Str.ofString "abcdefghijklmnopqrstuvwxyz") ⟨#[c]⟩ 0 (Str.ofString "abcdefghijklmnopqrstuvwxyz").length 1).isEmpty) = decide (isLow c) := by
  rw [StrLaws.found_one, letters_cps]
  have : (c ∈ (List.range 26).map (· + 97)) ↔ isLow c := by
    rw [List.mem_map]
    unfold isLow
    constructor
    · rintro ⟨k, hk, rfl⟩
      have := List.mem_range.mp hk
      omega
    · intro h
      exact ⟨c - 97, List.mem_range.mpr (by omega), by omega⟩
  simp only [this]
noncomputable def spChoice (K : PySem.W.Frag) : Sp := fun vs H Q _ => ∃ v t, vs = [v] ∧ IsTh K H v t ∧ ShortT t ∧ ∀ H', Same H H' → Q (.bl (choiceT t)) H'
noncomputable def spShape (K : PySem.W.Frag) : Sp := fun vs H Q _ => ∃ v t, vs = [v] ∧ IsTh K H v t ∧ ShortT t ∧ ∀ H', Same H H' → Q (.bl (shapeT t).isSome) H'
noncomputable def spWithin (K : PySem.W.Frag) : Sp := fun vs H Q _ => ∃ v t ks H0, vs = [v] ∧ IsTh K H0 v t ∧ Same H0 H ∧ shapeT t = some ks ∧ ∀ a ws H', Same H H' → H' a = some (.tup ws) → IsThs K H0 ws ks → Q (.ref a) H'
noncomputable def spIsRec (K : PySem.W.Frag) : Sp := fun vs H Q _ => ∃ v t, vs = [v] ∧ IsTh K H v t ∧ ShortT t ∧ ∀ H', Same H H' → Q (.bl (decide (szN 8 t ≤ 100))) H'
theorem shape2 (k : Str) (x : Th) : shapeT (.tup [.str k, x]) = if k = "number" then (if wholeT x = true then some [] else none) else if k = "read" then (if nameT x = true then some [] else none) else none := rfl
theorem shape3 (k : Str) (x y : Th) : shapeT (.tup [.str k, x, y]) = if k = "choose" then (if choiceT y = true then some [x] else none) else if k = "plus" ∨ k = "minus" ∨ k = "times" ∨ k = "most" then some [x, y] else none := rfl
theorem shape4 (k : Str) (x y z : Th) : shapeT (.tup [.str k, x, y, z]) = if k = "pick" then some [x, y, z] else none := rfl
theorem shape_len1 {k : Str} {r : List Th} (hk : k = "number" ∨ k = "read") (h : r.length ≠ 1) : shapeT (.tup (.str k :: r)) = none := by
  rcases r with _ | ⟨x, _ | ⟨y, _ | ⟨z, _ | ⟨u, r⟩⟩⟩⟩
  · rfl
  · simp at h
  · rw [shape3]; rcases hk with rfl | rfl <;> rw [if_neg (by decide +kernel), if_neg (by decide +kernel)]
  · rw [shape4]; rcases hk with rfl | rfl <;> rw [if_neg (by decide +kernel)]
  · rfl
theorem shape_len2 {k : Str} {r : List Th} (hk : k = "choose" ∨ k = "plus" ∨ k = "minus" ∨ k = "times" ∨ k = "most") (h : r.length ≠ 2) : shapeT (.tup (.str k :: r)) = none := by
  rcases r with _ | ⟨x, _ | ⟨y, _ | ⟨z, _ | ⟨u, r⟩⟩⟩⟩
  · rfl
  · rw [shape2]; rcases hk with rfl | rfl | rfl | rfl | rfl <;> rw [if_neg (by decide +kernel), if_neg (by decide +kernel)]
  · simp at h
  · rw [shape4]; rcases hk with rfl | rfl | rfl | rfl | rfl <;> rw [if_neg (by decide +kernel)]
  · rfl
theorem shape_len3 {r : List Th} (h : r.length ≠ 3) : shapeT (.tup (.str "pick" :: r)) = none := by
  rcases r with _ | ⟨x, _ | ⟨y, _ | ⟨z, _ | ⟨u, r⟩⟩⟩⟩
  · rfl
  · rw [shape2, if_neg (by decide +kernel), if_neg (by decide +kernel)]
  · rw [shape3, if_neg (by decide +kernel), if_neg (by decide +kernel)]
  · simp at h
  · rfl
theorem shape_other {k : Str} {r : List Th} (h : k ≠ "number" ∧ k ≠ "read" ∧ k ≠ "choose" ∧ k ≠ "plus" ∧ k ≠ "minus" ∧ k ≠ "times" ∧ k ≠ "most" ∧ k ≠ "pick") : shapeT (.tup (.str k :: r)) = none := by
  obtain ⟨h1, h2, h3, h4, h5, h6, h7, h8⟩ := h
  rcases r with _ | ⟨x, _ | ⟨y, _ | ⟨z, _ | ⟨u, r⟩⟩⟩⟩
  · rfl
  · rw [shape2, if_neg h1, if_neg h2]
  · rw [shape3, if_neg h3, if_neg (by simp [h4, h5, h6, h7])]
  · rw [shape4, if_neg h8]
  · rfl
theorem shape_num (x : Th) : shapeT (.tup [.str "number", x]) = if wholeT x = true then some [] else none := by rw [shape2, if_pos rfl]
theorem shape_rd (x : Th) : shapeT (.tup [.str "read", x]) = if nameT x = true then some [] else none := by
  rw [shape2, if_neg (by decide +kernel), if_pos rfl]
theorem shape_cho (x y : Th) : shapeT (.tup [.str "choose", x, y]) = if choiceT y = true then some [x] else none := by rw [shape3, if_pos rfl]
theorem shape_op {k : Str} (hk : k = "plus" ∨ k = "minus" ∨ k = "times" ∨ k = "most") (x y : Th) : shapeT (.tup [.str k, x, y]) = some [x, y] := by
  rw [shape3, if_neg (by rcases hk with rfl | rfl | rfl | rfl <;> decide +kernel), if_pos hk]
theorem shape_pick (x y z : Th) : shapeT (.tup [.str "pick", x, y, z]) = some [x, y, z] := by rw [shape4, if_pos rfl]
noncomputable abbrev wLook (k : Str) : Option PyData := PySem.Spec.lookup (.str k) (withinD.map fun p => (PyData.str p.1, p.2))
theorem w_number : wLook "number" = some (.int 0) := by kernel_rfl
theorem w_read : wLook "read" = some (.int 0) := by kernel_rfl
theorem w_plus : wLook "plus" = some (.int 2) := by kernel_rfl
theorem w_minus : wLook "minus" = some (.int 2) := by kernel_rfl
theorem w_times : wLook "times" = some (.int 2) := by kernel_rfl
theorem w_most : wLook "most" = some (.int 2) := by kernel_rfl
theorem w_pick : wLook "pick" = some (.int 3) := by kernel_rfl
theorem w_choose : wLook "choose" = some (.int 1) := by kernel_rfl
theorem w_none {k : Str} (h : k ≠ "number" ∧ k ≠ "read" ∧ k ≠ "choose" ∧ k ≠ "plus" ∧ k ≠ "minus" ∧ k ≠ "times" ∧ k ≠ "most" ∧ k ≠ "pick") : wLook k = none := by
  obtain ⟨h1, h2, h3, h4, h5, h6, h7, h8⟩ := h
  simp only [wLook, withinD, List.map_cons, List.map_nil, PySem.Spec.lookup, PyProof.V.same_str]
  simp [Ne.symm h1, Ne.symm h2, Ne.symm h3, Ne.symm h4, Ne.symm h5, Ne.symm h6, Ne.symm h7, Ne.symm h8]
theorem shape_inv {t : Th} {ks : List Th} (h : shapeT t = some ks) : (∃ x, t = .tup [.str "number", x] ∧ ks = []) ∨ (∃ x, t = .tup [.str "read", x] ∧ ks = []) ∨ (∃ x y, t = .tup [.str "choose", x, y] ∧ ks = [x]) ∨
    (∃ (k : Str) (x y : Th), (k = "plus" ∨ k = "minus" ∨ k = "times" ∨ k = "most") ∧ t = .tup [.str k, x, y] ∧ ks = [x, y]) ∨ ∃ x y z, t = .tup [.str "pick", x, y, z] ∧ ks = [x, y, z] := by
  unfold shapeT at h
  split at h
  · rename_i k x
    split at h
    · rename_i hk
      split at h
      · cases h; exact .inl ⟨x, by rw [hk], rfl⟩
      · cases h
    · split at h
      · rename_i _ hk
        split at h
        · cases h; exact .inr (.inl ⟨x, by rw [hk], rfl⟩)
        · cases h
      · cases h
  · rename_i k x y
    split at h
    · rename_i hk
      split at h
      · cases h; exact .inr (.inr (.inl ⟨x, y, by rw [hk], rfl⟩))
      · cases h
    · split at h
      · rename_i _ hk
        cases h; exact .inr (.inr (.inr (.inl ⟨k, x, y, hk, rfl, rfl⟩)))
      · cases h
  · rename_i k x y z
    split at h
    · rename_i hk
      cases h; exact .inr (.inr (.inr (.inr ⟨x, y, z, by rw [hk], rfl⟩)))
    · cases h
  · cases h
theorem itB_t {b : Bool} {A B : Prop} (h : b = true) (hA : A) : if b = true then A else B := by rw [if_pos h]; exact hA
theorem itB_f {b : Bool} {A B : Prop} (h : b = false) (hB : B) : if b = true then A else B := by rw [if_neg (by rw [h]; exact Bool.false_ne_true)]; exact hB
theorem op_isSome {k : Str} (hk : k = "plus" ∨ k = "minus" ∨ k = "times" ∨ k = "most") {ts : List Th} {x : V} {vs : List V} (hl : vs.length = ts.length) : (shapeT (.tup (.str k :: ts))).isSome = decide (V.int (((x :: vs).length : Nat) : Int) = V.int (1 + 2)) := by
  by_cases h : ts.length = 2
  · rcases ts with _ | ⟨a, _ | ⟨b, _ | ⟨c, r⟩⟩⟩
    · simp at h
    · simp at h
    · rw [shape_op hk, decide_eq_true]
      · rfl
      · rw [List.length_cons, hl]; rfl
    · simp at h
  · rw [shape_len2 (.inr hk) h, decide_eq_false]
    · rfl
    · intro z
      have := V.int.inj z
      simp at this
      omega
theorem pick_isSome {ts : List Th} {x : V} {vs : List V} (hl : vs.length = ts.length) : (shapeT (.tup (.str "pick" :: ts))).isSome = decide (V.int (((x :: vs).length : Nat) : Int) = V.int (1 + 3)) := by
  by_cases h : ts.length = 3
  · rcases ts with _ | ⟨a, _ | ⟨b, _ | ⟨c, _ | ⟨d, r⟩⟩⟩⟩
    · simp at h
    · simp at h
    · simp at h
    · rw [shape_pick, decide_eq_true]
      · rfl
      · rw [List.length_cons, hl]; rfl
    · simp at h
  · rw [shape_len3 h, decide_eq_false]
    · rfl
    · intro z
      have := V.int.inj z
      simp at this
      omega
theorem len_of {x : V} {vs : List V} {n : Int} : (V.int (((x :: vs).length : Nat) : Int) = V.int n) ↔ (vs.length : Int) = n - 1 := by
  constructor
  · intro z
    have := V.int.inj z
    simp at this
    omega
  · intro z
    congr 1
    simp
    omega
theorem kids_short {t : Th} {ks : List Th} (h : shapeT t = some ks) (s : ShortT t) : ∀ k ∈ ks, ShortT k := by
  rcases shape_inv h with ⟨x, rfl, rfl⟩ | ⟨x, rfl, rfl⟩ | ⟨x, y, rfl, rfl⟩ | ⟨k, x, y, _, rfl, rfl⟩ | ⟨x, y, z, rfl, rfl⟩
  · simp
  · simp
  · intro k hk; exact s.of k (by simp at hk; simp [hk])
  · intro k' hk; exact s.of k' (by simp at hk; rcases hk with rfl | rfl <;> simp)
  · intro k' hk; exact s.of k' (by simp at hk; rcases hk with rfl | rfl | rfl <;> simp)
theorem kids_le {t : Th} {ks : List Th} (h : shapeT t = some ks) : ks.length ≤ 3 := by
  rcases shape_inv h with ⟨x, rfl, rfl⟩ | ⟨x, rfl, rfl⟩ | ⟨x, y, rfl, rfl⟩ | ⟨k, x, y, _, rfl, rfl⟩ | ⟨x, y, z, rfl, rfl⟩ <;> simp
/-- one row of the list of what is to do: its tuple, the thing, what it is, its depth -/
structure Job where
  a : Addr
  v : V
  t : Th
  d : Nat
structure JOk (K : PySem.W.Frag) (H0 H : Hp) (j : Job) : Prop where
  e : H j.a = some (.tup [j.v, .int j.d])
  i : IsTh K H0 j.v j.t
  s : ShortT j.t
  lo : 1 ≤ j.d
  hi : j.d ≤ 9
noncomputable def sumJ (js : List Job) : Nat := (js.map fun j => szN (9 - j.d) j.t).sum
theorem sumJ_snoc (js : List Job) (j : Job) : sumJ (js ++ [j]) = sumJ js + szN (9 - j.d) j.t := by
  unfold sumJ
  rw [List.map_append, List.sum_append]
  simp
theorem JOk.tups {K : PySem.W.Frag} {H0 H H' : Hp} (s : Tups H H') {j : Job} (h : JOk K H0 H j) : JOk K H0 H' j := ⟨s _ _ h.e, h.i, h.s, h.lo, h.hi⟩
theorem szN_some {d : Nat} {t : Th} {ks : List Th} (hd : d ≤ 8) (h : shapeT t = some ks) : szN (9 - d) t = 1 + (ks.map (szN (8 - d))).sum := by
  have e : 9 - d = (8 - d) + 1 := by omega
  rw [e]
  show (match shapeT t with | none => 1000 | some ks => 1 + (ks.map (szN (8 - d))).sum) = _
  rw [h]
theorem szN_none {d : Nat} {t : Th} (h : shapeT t = none) : 1000 ≤ szN d t := by
  cases d with
  | zero => exact Nat.le_refl _
  | succ d =>
    show 1000 ≤ (match shapeT t with | none => 1000 | some ks => 1 + (ks.map (szN d)).sum)
    rw [h]
    exact Nat.le_refl _
theorem Tups.trans {H H1 H2 : Hp} (a : Tups H H1) (b : Tups H1 H2) : Tups H H2 := fun c xs h => b c xs (a c xs h)
/-- an invariant that the stepping leaves alone -/
structure Wr (p : Prop) : Prop where
  h : p
end RB

set_option maxRecDepth 100000
namespace RB
open PySem L2 PySem.Spec PyProof.Rows
/-! ### recipes whose read names may be none -/
noncomputable def R.toTh : R → Th
  | .num n => .tup [.str "number", .int n]
  | .rd x => .tup [.str "read", .str x]
  | .bin op a b => .tup [.str op.word, a.toTh, b.toTh]
  | .pick a b c => .tup [.str "pick", a.toTh, b.toTh, c.toTh]
  | .cho a ns => .tup [.str "choose", a.toTh, .tup (ns.map Th.str)]
noncomputable def R.Fine : R → Prop
  | .num _ => True
  | .rd x => x.length ≤ 8 ∧ ∀ c ∈ x.cps.toList, c < 128
  | .bin _ a b => a.Fine ∧ b.Fine
  | .pick a b c => a.Fine ∧ b.Fine ∧ c.Fine
  | .cho a ns => a.Fine ∧ 1 ≤ ns.length ∧ ns.length ≤ 9 ∧ ∀ x ∈ ns, GName x
theorem strs_isThs {K : PySem.W.Frag} {H : Hp} : ∀ ns : List Str, IsThs K H (ns.map V.str) (ns.map Th.str)
  | [] => .nil
  | x :: r => .cons (.str x) (strs_isThs r)
theorem IsR.isTh {K : PySem.W.Frag} {H : Hp} {a : Addr} {r : R} (h : IsR H a r) : IsTh K H (.ref a) r.toTh := by
  induction h with
  | num e => exact .tup e (.cons (.str _) (.cons (.int _) .nil))
  | rd e => exact .tup e (.cons (.str _) (.cons (.str _) .nil))
  | bin e _ _ i1 i2 => exact .tup e (.cons (.str _) (.cons i1 (.cons i2 .nil)))
  | pick e _ _ _ i1 i2 i3 => exact .tup e (.cons (.str _) (.cons i1 (.cons i2 (.cons i3 .nil))))
  | cho e _ h2 i1 => exact .tup e (.cons (.str _) (.cons i1 (.cons (.tup h2 (strs_isThs _)) .nil)))
theorem choice_ok {ns : List Str} (h1 : 1 ≤ ns.length) (h2 : ns.length ≤ 9) (h : ∀ x ∈ ns, GName x) : choiceT (.tup (ns.map Th.str)) = true := by
  show (decide (1 ≤ (ns.map Th.str).length) && decide ((ns.map Th.str).length ≤ 9) && (ns.map Th.str).all nameT) = true
  rw [List.length_map, decide_eq_true h1, decide_eq_true h2, List.all_map]
  simp only [Bool.true_and, List.all_eq_true]
  intro x hx
  exact decide_eq_true (h x hx)
/-- the recipes within, if it is one's shape -/
noncomputable def R.kids : R → Option (List R)
  | .num _ => some []
  | .rd x => if GName x then some [] else none
  | .bin _ a b => some [a, b]
  | .pick a b c => some [a, b, c]
  | .cho a _ => some [a]
theorem R.shape (r : R) (h : r.Fine) : shapeT r.toTh = (r.kids).map (·.map R.toTh) := by
  cases r with
  | num n => exact (shape_num _).trans (by rfl)
  | rd x =>
    refine (shape_rd _).trans ?_
    show (if decide (GName x) = true then some [] else none) = Option.map _ (if GName x then some [] else none)
    by_cases g : GName x
    · rw [if_pos (decide_eq_true g), if_pos g]; rfl
    · rw [if_neg (by simpa using g), if_neg g]; rfl
  | bin op a b => exact (shape_op (by cases op <;> simp [Op.word]) _ _).trans (by rfl)
  | pick a b c => exact (shape_pick _ _ _).trans (by rfl)
  | cho a ns => exact (shape_cho _ _).trans (by rw [if_pos (choice_ok h.2.1 h.2.2.1 h.2.2.2)]; rfl)
noncomputable def szR (n : Nat) (r : R) : Nat := szN n r.toTh
theorem szR_succ (n : Nat) (r : R) (h : r.Fine) : szR (n + 1) r = match r.kids with | none => 1000 | some ks => 1 + (ks.map (szR n)).sum := by
  show (match shapeT r.toTh with | none => 1000 | some ks => 1 + (ks.map (szN n)).sum) = _
  rw [r.shape h]
  cases r.kids with
  | none => rfl
  | some ks =>
    show 1 + ((ks.map R.toTh).map (szN n)).sum = _
    rw [List.map_map]
    rfl
theorem depth_strs : ∀ l : List Str, PyData.depthAll (l.map PyData.str) ≤ 1
  | [] => by simp [PyData.depthAll]
  | c :: r => by
    have := depth_strs r
    simp [PyData.depthAll, PyData.depth]
    omega
end RB

set_option maxRecDepth 100000
namespace L2
open PySem PySem.Spec PyProof.Rows
theorem Fun.okQ {P : Program} {w : World} {K : PySem.W.Frag} {mg : Str → Option Value} {base : Heap} {x qual : Str} {st : Stmt} {f : Addr} {fd : FuncData} {N ps : List Str} {k : Nat} {sp : Sp} (F : Fun K x qual st f fd) (S : FnScope N ps (defScope st)) (len : ∀ vs H Q E, sp vs H Q E → vs.length = ps.length)
    (hbody : ∀ (cdv : Value) (A : Around) (outer : List Env) (s : Shared) (H : Hp) (vs : List V) (Q : VK) (E : XK), Room k (A.deeper (envOfC qual (defScope st) s.heap.objs.size f cdv)) → sp vs H Q E →
      ∃ t, QSs (cxOf CX0 P w K mg base N qual (defScope st) f cdv A outer s H E).nox (defBody st) t ∧ t { nx := fun _ H' => Q .non H', rt := Q } (start N vs) H) : FnOk P w K mg base CX0 (k + 1) f fd ps sp :=
  F.ok S len fun cdv A outer s H vs Q E hr hsp => let ⟨t, a, b⟩ := hbody cdv A outer s H vs Q E hr hsp; ⟨t, a.h, b⟩
end L2
namespace RB
open PySem L2 PySem.Spec PyProof.Rows
/-! ### the parts of a display or a call, by their kinds: the star's row is not reckoned anew for each -/
theorem star_C (value : Const) (k : Nat) (p : Pos) (es : List Expr) (env : Env) : starEach (.Constant value k p :: es) env = (false, eval (.Constant value k p) env) :: starEach es env := rfl
theorem qa_C {X : Cx} {value : Const} {k : Nat} {p : Pos} {es : List Expr} {te : TE} {t : TA} (ha : QE X (.Constant value k p) te) (hr : QA X es t) : QA X (.Constant value k p :: es) (tCons te t) := qa_cons ha hr (star_C value k p _ _)
theorem star_N (x : Str) (p : Pos) (es : List Expr) (env : Env) : starEach (.Name x p :: es) env = (false, eval (.Name x p) env) :: starEach es env := rfl
theorem qa_N {X : Cx} {x : Str} {p : Pos} {es : List Expr} {te : TE} {t : TA} (ha : QE X (.Name x p) te) (hr : QA X es t) : QA X (.Name x p :: es) (tCons te t) := qa_cons ha hr (star_N x p _ _)
theorem star_B (a : Expr) (op : Operator) (b : Expr) (p : Pos) (es : List Expr) (env : Env) : starEach (.BinOp a op b p :: es) env = (false, eval (.BinOp a op b p) env) :: starEach es env := rfl
theorem qa_B {X : Cx} {a : Expr} {op : Operator} {b : Expr} {p : Pos} {es : List Expr} {te : TE} {t : TA} (ha : QE X (.BinOp a op b p) te) (hr : QA X es t) : QA X (.BinOp a op b p :: es) (tCons te t) := qa_cons ha hr (star_B a op b p _ _)
theorem star_K (a : Expr) (ops : List CmpOp) (cs : List Expr) (p : Pos) (es : List Expr) (env : Env) : starEach (.Compare a ops cs p :: es) env = (false, eval (.Compare a ops cs p) env) :: starEach es env := rfl
theorem qa_K {X : Cx} {a : Expr} {ops : List CmpOp} {cs : List Expr} {p : Pos} {es : List Expr} {te : TE} {t : TA} (ha : QE X (.Compare a ops cs p) te) (hr : QA X es t) : QA X (.Compare a ops cs p :: es) (tCons te t) := qa_cons ha hr (star_K a ops cs p _ _)
theorem star_T (xs : List Expr) (k : Nat) (p : Pos) (es : List Expr) (env : Env) : starEach (.Tuple xs k p :: es) env = (false, eval (.Tuple xs k p) env) :: starEach es env := rfl
theorem qa_T {X : Cx} {xs : List Expr} {k : Nat} {p : Pos} {es : List Expr} {te : TE} {t : TA} (ha : QE X (.Tuple xs k p) te) (hr : QA X es t) : QA X (.Tuple xs k p :: es) (tCons te t) := qa_cons ha hr (star_T xs k p _ _)
theorem star_L (xs : List Expr) (p : Pos) (es : List Expr) (env : Env) : starEach (.List xs p :: es) env = (false, eval (.List xs p) env) :: starEach es env := rfl
theorem qa_L {X : Cx} {xs : List Expr} {p : Pos} {es : List Expr} {te : TE} {t : TA} (ha : QE X (.List xs p) te) (hr : QA X es t) : QA X (.List xs p :: es) (tCons te t) := qa_cons ha hr (star_L xs p _ _)
theorem star_D (ks : List (Option Expr)) (xs : List Expr) (p : Pos) (es : List Expr) (env : Env) : starEach (.Dict ks xs p :: es) env = (false, eval (.Dict ks xs p) env) :: starEach es env := rfl
theorem qa_D {X : Cx} {ks : List (Option Expr)} {xs : List Expr} {p : Pos} {es : List Expr} {te : TE} {t : TA} (ha : QE X (.Dict ks xs p) te) (hr : QA X es t) : QA X (.Dict ks xs p :: es) (tCons te t) := qa_cons ha hr (star_D ks xs p _ _)
theorem star_S (a b : Expr) (p : Pos) (es : List Expr) (env : Env) : starEach (.Subscript a b p :: es) env = (false, eval (.Subscript a b p) env) :: starEach es env := rfl
theorem qa_S {X : Cx} {a b : Expr} {p : Pos} {es : List Expr} {te : TE} {t : TA} (ha : QE X (.Subscript a b p) te) (hr : QA X es t) : QA X (.Subscript a b p :: es) (tCons te t) := qa_cons ha hr (star_S a b p _ _)
theorem star_F (f : Expr) (xs : List Expr) (ks : List Keyword) (p : Pos) (es : List Expr) (env : Env) : starEach (.Call f xs ks p :: es) env = (false, eval (.Call f xs ks p) env) :: starEach es env := rfl
theorem qa_F {X : Cx} {f : Expr} {xs : List Expr} {ks : List Keyword} {p : Pos} {es : List Expr} {te : TE} {t : TA} (ha : QE X (.Call f xs ks p) te) (hr : QA X es t) : QA X (.Call f xs ks p :: es) (tCons te t) := qa_cons ha hr (star_F f xs ks p _ _)
theorem star_M (e : Expr) (gs : List Comprehension) (sc : Scope) (p : Pos) (es : List Expr) (env : Env) : starEach (.ListComp e gs sc p :: es) env = (false, eval (.ListComp e gs sc p) env) :: starEach es env := rfl
theorem qa_M {X : Cx} {e : Expr} {gs : List Comprehension} {sc : Scope} {p : Pos} {es : List Expr} {te : TE} {t : TA} (ha : QE X (.ListComp e gs sc p) te) (hr : QA X es t) : QA X (.ListComp e gs sc p :: es) (tCons te t) := qa_cons ha hr (star_M e gs sc p _ _)
end RB

set_option maxRecDepth 100000
namespace L2
open PySem PySem.Spec PyProof.Rows
section
variable {X : Cx} {pins : List (Addr × Obj)} {σ : L2.St} {H : Hp} {s : Shared}
/-! ### texts: startswith from a place, a slice, the number that is written -/
end
/-! ### own objects -/
section
variable {X : Cx} {o e value : Expr} {es : List Expr} {f m : Str} {pos pos' apos : Pos} {ta tv : TE} {t : TA} {C fa : Addr} {CX : CXT} {k : Nat} {fd : FuncData} {ps : List Str} {sp : Sp} {dvs : List V} {ds : List Value} {E : XK}
end
end L2

set_option maxRecDepth 100000
namespace L2
open PySem PySem.Spec PyProof.Rows
/-! ### an exception that flies -/
section
variable {X : Cx} {pins : List (Addr × Obj)} {σ : St} {H H' : Hp} {s s' : Shared} {a : Addr} {cls : Value}
end
section
variable {P : Program} {w : World} {K : PySem.W.Frag} {mg : Str → Option Value} {base : Heap} {N : List Str} {qual : Str} {scope : Scope} {f : Addr} {cd : Value} {A : Around} {outer : List Env} {s₀ : Shared} {H₀ : Hp} {E : XK}
end
end L2

set_option maxRecDepth 100000
namespace L2
open PySem PySem.Spec PyProof.Rows
section
variable {X : Cx} {pins : List (Addr × Obj)} {σ : St} {H H' : Hp} {s s' : Shared} {a : Addr} {cls : Value}
/-! ### try -/
/-- an object that stands is tracked from here on -/
theorem Inv.track {o : HO} (I : Inv X pins σ H s) (hn : H a = none) (h0 : X.s₀.heap.get? a = none) (hL : a ≠ X.env.locals) (hC : ∀ x c, X.env.cells.lookup x = some c → c ≠ a) (hp : ∀ p ∈ X.pn ++ pins, p.1 ≠ a)
    (new : ObjOk X.prog X.w (upd H a o) s.heap a o) : Inv X pins σ (upd H a o) s := by
  refine ⟨I.ok, I.os, I.bare, ⟨fun b u q n hb hx => I.base.keep b u q n hb hx, fun b u q n hb hx => I.base.slot b u q n hb hx, fun b u q n hx => ?_, I.base.there, fun b xs q => ?_, fun b u v q => ?_, fun b ps q => ?_⟩, I.loc, I.cell, ?_, fun x c e => ?_, fun p q => ?_, fun b u q => ?_, I.len⟩
  · rw [upd_ne (fun z => by rw [z, h0] at q; cases q)]; exact I.base.free b u q n hx
  · have e := I.base.tups b xs q
    rw [upd_ne (ne_of_none e hn)]; exact e
  · have e := I.base.frzs b u v q
    rw [upd_ne (ne_of_none e hn)]; exact e
  · obtain ⟨m, e⟩ := I.base.tbls b ps q
    exact ⟨m, by rw [upd_ne (ne_of_none e hn)]; exact e⟩
  · rw [upd_ne (Ne.symm hL)]; exact I.free
  · rw [upd_ne (hC x c e)]; exact I.freeC x c e
  · obtain ⟨e, n, r⟩ := I.pin p q
    exact ⟨e, by rw [upd_ne (hp p q)]; exact n, r⟩
  · by_cases hb : b = a
    · subst hb; rw [upd_same] at q; cases q; exact new
    · rw [upd_ne hb] at q
      exact (I.hok b u q).stay (fun c v _ r => r) (fun c r => by rw [upd_ne (ne_of_none r hn)]; exact r) fun c xs r => by rw [upd_ne (ne_of_none r hn)]; exact r
end
section
variable {X : Cx} {x n : Str} {i : Nat} {C : Addr} {np hpos pos : Pos} {body suite : List Stmt} {b₀ : Stmt} {tb : (St → XK) → TS} {th : TS}
end
end L2

set_option maxRecDepth 100000
namespace L2
open PySem PySem.Spec PyProof.Rows PySem.W
section
variable {prog : Program} {w : World} {A : Around} {E : Value → Shared → Prop} {h : Heap} {g : Array GenState} {d : Drawn} {t : Nat} {os : OsState} {K : PySem.W.Frag} {a C : Addr} {o : Obj}
end
end L2

set_option maxRecDepth 100000
namespace L2
open PySem PySem.Spec PyProof.Rows
section
variable {X : Cx} {pins : List (Addr × Obj)} {σ : St} {H H' : Hp} {s s' : Shared}
/-! ### f"{x!r} .." of a short text: some text -/
end
/-! ### defs that raise; calls in a try's body -/
section
variable {P : Program} {w : World} {K : PySem.W.Frag} {mg : Str → Option Value} {base : Heap} {N : List Str} {qual : Str} {scope : Scope} {f : Addr} {cd : Value} {A : Around} {outer : List Env} {s₀ : Shared} {H₀ : Hp} {E : XK}
end
section
variable {X : Cx} {CX : CXT} {k : Nat} {f : Addr} {fd : FuncData} {ps : List Str} {sp : Sp} {dvs : List V} {ds : List Value} {E : St → XK} {x : Str} {p pos : Pos} {e : Expr} {es : List Expr} {t : TA}
end
end L2
namespace RB
open PySem L2 PySem.Spec PyProof.Rows
end RB

set_option maxRecDepth 100000
namespace RB
open PySem L2 PySem.Spec PyProof.Rows
/-! ### a set of texts -/
/-- the texts in the order in which each is met first -/
noncomputable def metS : List Str → List Str → List Str
  | acc, [] => acc
  | acc, x :: r => if x ∈ acc then metS acc r else metS (acc ++ [x]) r
theorem metS_le : ∀ (r acc : List Str), (metS acc r).length ≤ acc.length + r.length
  | [], acc => by simp [metS]
  | x :: r, acc => by
    rw [metS]
    split
    · have := metS_le r acc
      simp only [List.length_cons]; omega
    · have := metS_le r (acc ++ [x])
      simp only [List.length_append, List.length_cons, List.length_nil] at this ⊢; omega
section
variable {prog : Program} {w : World} {A : Around} {R : Result → Shared → Prop} {I : Addr} {fp wr : List Addr} {G : Array GenState → Array GenState → Prop} {n : Nat} {P : Nat → Value → Prop} {St : Nat → Shared → Prop}
end
end RB

set_option maxRecDepth 100000
namespace RB
open PySem L2 PySem.Spec PyProof.Rows
section
variable {prog : Program} {w : World} {A : Around} {E : Value → Shared → Prop} {s : Shared}
/-- a new set, bare -/
noncomputable abbrev bareSet (led : Bool) : Obj := { cls := .type "set", dict := none, data := .set #[] 0 (.fresh 0 0 led) }
/-- the texts of a row of values -/
noncomputable def TextsAt (its : Array Value) (ts : List Str) : Prop := ts.length = its.size ∧ ∀ (i : Nat) (v : Value), its[i]? = some v → ∃ x t, ts[i]? = some x ∧ v = .str x t
end
end RB

set_option maxRecDepth 100000
namespace RB
open PySem L2 PySem.Spec PyProof.Rows
/-! ### a set of texts that may be gone through -/
noncomputable def LedT (w : World) (es : Array (Int × Value)) (t : SetTable) : Prop := (t.led = true ∨ w.params.followText "set-order" = true) ∧ (es.size = 0 ∨ t.plain = false)
noncomputable def TSetL (prog : Program) (w : World) (h : Heap) (S : Addr) (acc : List Str) : Prop :=
  ∃ o es ep t, h.get? S = some o ∧ o.ExactSet ∧ o.data = .set es ep t ∧ ElemsOf (strKind prog w) es.toList ∧ (∀ k, k ∈ acc ↔ ∃ e ∈ es.toList, (strKind prog w).is k e.2 = true) ∧ es.size < scanBound ∧ t.fits es.size = true ∧ es.size = acc.length ∧ LedT w es t
theorem TSetL.kept {prog : Program} {w : World} {h h' : Heap} {S : Addr} {acc : List Str} (t : TSetL prog w h S acc) (k : ∀ o, h.get? S = some o → h'.get? S = some o) : TSetL prog w h' S acc := by
  obtain ⟨o, es, ep, tb, ho, rest⟩ := t
  exact ⟨o, es, ep, tb, k o ho, rest⟩
theorem new_led (t : SetTable) (es : Array (Int × Value)) (h : Int) (x : Value) : (layNew t es h x).2.1.led = t.led := by
  unfold layNew
  split
  · show ((t.put _).1.orStandIn _).led = t.led
    unfold SetTable.orStandIn
    split <;> rfl
  · rfl
theorem all_led (t : SetTable) (es : Array (Int × Value)) (n : Nat) : (relayAll t es n).2.1.led = t.led ∧ (t.plain = false → (relayAll t es n).2.1.plain = false) := by
  unfold relayAll
  split
  · rename_i u o hu
    have key : u.led = t.led ∧ u.plain = t.plain := by
      unfold SetTable.relaid SetTable.laid at hu
      cases hl : SetTable.layClean (SetTable.sizeAbove n - 1) (es.map (·.1)) with
      | none => rw [hl] at hu; exact absurd hu (by simp)
      | some z =>
        rw [hl] at hu
        have := Option.some.inj hu
        have h1 := congrArg Prod.fst this
        exact ⟨(congrArg SetTable.led h1).symm, (congrArg SetTable.plain h1).symm⟩
    dsimp only
    split
    · exact ⟨key.1, fun h => by rw [key.2]; exact h⟩
    · exact ⟨rfl, fun _ => rfl⟩
  · exact ⟨rfl, fun _ => rfl⟩
section
variable {prog : Program} {w : World} {A : Around} {E : Value → Shared → Prop} {s : Shared}
theorem add_tail {g : Bool → Sem Unit} (hg : ∀ (b : Bool) (u : Shared) (Q' : Unit → Shared → Prop), Q' () u → wpAny (model prog w) A (g b) Q' E u)
    {a : Addr} {o : Obj} {es : Array (Int × Value)} {ep : Nat} {t : SetTable} (ho : s.heap.get? a = some o) (hex : o.ExactSet) (hd : o.data = .set es ep t)
    {e1 : Array (Int × Value)} {t2 : SetTable} {acc : List Str} (hel : ElemsOf (strKind prog w) e1.toList) (hm : ∀ k, k ∈ acc ↔ ∃ e ∈ e1.toList, (strKind prog w).is k e.2 = true)
    (hb : e1.size < scanBound) (hf : t2.fits e1.size = true) (hn : e1.size = acc.length) (hl : t2.led = true ∨ w.params.followText "set-order" = true) (hp : t2.plain = false) {dm : Bool} {R : Option Bool → Shared → Prop}
    (h : ∀ h', Heap.SameBut a s.heap h' → TSetL prog w h' a acc → R (some true) { s with heap := h' }) :
    wpAny (model prog w) A (storeSet a e1 t2 >>= fun _ => if (!dm && t2.tooFull) = true then g (relayAll t2 e1 (SetTable.grown e1.size)).2.2 >>= fun _ => storeSet a (relayAll t2 e1 (SetTable.grown e1.size)).1 (relayAll t2 e1 (SetTable.grown e1.size)).2.1 >>= fun _ => pure (some true) else pure (some true)) R E s := by
  refine wpAny_bind (wpAny_storeSet_of ho hd ?_ (fits_of_scanBound hb))
  obtain ⟨ho1, _⟩ := SetOf_store (knd := strKind prog w) (S' := fun k => decide (k ∈ acc)) ho hex hd hel (fun k => by rw [decide_eq_true_eq]; exact hm k) hb hf
  have sb := Heap.SameBut.update s.heap a (Obj.putSet e1 t2)
  split
  · have hp2 := relayAll_perm t2 e1 (SetTable.grown e1.size)
    have hf2 := relayAll_fits t2 e1 (SetTable.grown e1.size)
    have hl2 := all_led t2 e1 (SetTable.grown e1.size)
    generalize relayAll t2 e1 (SetTable.grown e1.size) = Rl at hp2 hf2 hl2 ⊢
    obtain ⟨e2, t3, gv⟩ := Rl
    dsimp only at hp2 hf2 hl2 ⊢
    have sz : e2.size = e1.size := by rw [← Array.length_toList, hp2.length_eq, Array.length_toList]
    have hb2 : e2.size < scanBound := by rw [sz]; exact hb
    have hm2 : ∀ k, k ∈ acc ↔ ∃ e ∈ e2.toList, (strKind prog w).is k e.2 = true := fun k => (hm k).trans ⟨fun ⟨e, z, y⟩ => ⟨e, hp2.mem_iff.mpr z, y⟩, fun ⟨e, z, y⟩ => ⟨e, hp2.mem_iff.mp z, y⟩⟩
    refine wpAny_bind (hg _ _ _ (wpAny_bind (wpAny_storeSet_of ho1 rfl ?_ (fits_of_scanBound hb2))))
    obtain ⟨ho2, _⟩ := SetOf_store (knd := strKind prog w) (S' := fun k => decide (k ∈ acc)) (es' := e2) (t' := t3) ho1 hex rfl (hel.perm hp2) (fun k => by rw [decide_eq_true_eq]; exact hm2 k) hb2 hf2
    exact wpAny_pure (h _ (sb.trans (Heap.SameBut.update _ a _)) ⟨_, e2, _, t3, ho2, hex, rfl, hel.perm hp2, hm2, hb2, hf2, by omega, by rw [hl2.1]; exact hl, .inr (hl2.2 hp)⟩)
  · exact wpAny_pure (h _ sb ⟨_, e1, _, t2, ho1, hex, rfl, hel, hm, hb, hf, hn, hl, .inr hp⟩)
theorem add_led {a : Addr} {acc : List Str} {x : Str} {tk : Tok} {Q : Bool → Shared → Prop} (hS : TSetL prog w s.heap a acc) (hr : acc.length + 1 < scanBound)
    (h : ∀ h' b, Heap.SameBut a s.heap h' → TSetL prog w h' a (if x ∈ acc then acc else acc ++ [x]) → Q b { s with heap := h' }) :
    wpAny (model prog w) A (setAddHashed a (.str x tk) ((strKind prog w).hash x)) Q E s := by
  obtain ⟨o, es, ep, t, ho, hex, hd, hel, hm, hb, hf, hn, hl, hp⟩ := hS
  have hkey : (strKind prog w).is x (.str x tk) = true := strKind_is prog w x tk
  have hsc : (Value.str x tk).scannable = true := rfl
  unfold setAddHashed setAddHashedIn
  refine wpAny_holding (wpAny_bind (wpAny_setState_of ho hd hf ?_))
  dsimp only
  rw [byScan_of hsc hb hel, if_pos rfl]
  unfold setAddByScan
  refine wpAny_bind (wpAny_bind (wpAny_rule (wpAny_bind (wpAny_setScan_of hkey ho hd hf hel ?_))))
  have hmx := hm x
  cases hr' : List.findIdx? (fun e => (strKind prog w).is x e.2) es.toList with
  | some j =>
    dsimp only
    obtain ⟨hj, hpj, _⟩ := List.findIdx?_eq_some_iff_getElem.mp hr'
    have hx : x ∈ acc := hmx.mpr ⟨_, List.getElem_mem hj, hpj⟩
    have := h s.heap false (Heap.SameBut.refl a s.heap)
    rw [if_pos hx] at this
    exact wpAny_pure (wpAny_pure (this ⟨o, es, ep, t, ho, hex, hd, hel, hm, hb, hf, hn, hl, hp⟩))
  | none =>
    dsimp only
    have hx : x ∉ acc := fun z => by
      obtain ⟨e, he, y⟩ := hmx.mp z
      have := List.findIdx?_eq_none_iff.mp hr' e he
      rw [y] at this; exact Bool.noConfusion this
    have h' : ∀ h' b, Heap.SameBut a s.heap h' → TSetL prog w h' a (acc ++ [x]) → Q b { s with heap := h' } := fun h1 b sb z => h h1 b sb (by rw [if_neg hx]; exact z)
    have gw : ∀ (b : Bool) (u : Shared) (Q' : Unit → Shared → Prop), Q' () u → wpAny (model prog w) A (match b with | true => rule "set.scan.the-table-gave-way" | false => pure ()) Q' E u :=
      fun b u Q' q => by cases b <;> first | exact wpAny_pure q | exact wpAny_rule q
    have hperm := layNew_perm t es ((strKind prog w).hash x) (.str x tk)
    have hfit := layNew_fits t es ((strKind prog w).hash x) (.str x tk)
    have hled := new_led t es ((strKind prog w).hash x) (.str x tk)
    generalize layNew t es ((strKind prog w).hash x) (.str x tk) = L at hperm hfit hled ⊢
    obtain ⟨e1, t1, dm, gv⟩ := L
    dsimp only at hperm hfit hled ⊢
    rw [Array.toList_push] at hperm
    have sz : e1.size = es.size + 1 := by rw [← Array.length_toList, hperm.length_eq, List.length_append, Array.length_toList]; rfl
    have hel1 := (hel.push hkey hsc).perm hperm
    have hb1 : e1.size < scanBound := by omega
    have hm1 : ∀ k, k ∈ acc ++ [x] ↔ ∃ e ∈ e1.toList, (strKind prog w).is k e.2 = true := fun k => by
      have := mem_push_iff (S := fun k => decide (k ∈ acc)) hkey (fun k => by rw [decide_eq_true_eq]; exact hm k) hperm k
      rw [← this]; simp
    have hn1 : e1.size = (acc ++ [x]).length := by simp; omega
    have hl1 : t1.led = true ∨ w.params.followText "set-order" = true := by rw [hled]; exact hl
    refine wpAny_bind (gw _ _ _ ?_)
    split
    · refine wpAny_bind ?_
      rw [hashByValue_scannable 8 hsc]
      refine wpAny_pure ?_
      refine add_tail gw ho hex hd hel1 hm1 hb1 (t2 := { t1 with plain := false }) (SetTable.fits_plain_off hfit) hn1 hl1 rfl fun h1 sb z => ?_
      exact wpAny_pure (h' h1 _ sb z)
    · rename_i hpl
      refine wpAny_bind (wpAny_pure ?_)
      rw [if_pos rfl]
      refine add_tail gw ho hex hd hel1 hm1 hb1 hfit hn1 hl1 (by simpa using hpl) fun h1 sb z => ?_
      exact wpAny_pure (h' h1 _ sb z)
end
end RB

set_option maxRecDepth 100000
namespace RB
open PySem L2 PySem.Spec PyProof.Rows
section
variable {prog : Program} {w : World} {A : Around} {R : Result → Shared → Prop} {I : Addr} {fp wr : List Addr} {G : Array GenState → Array GenState → Prop} {n : Nat} {P : Nat → Value → Prop} {St : Nat → Shared → Prop}
theorem loop_led (W : WalksS prog w A.in1 I fp wr G n P St) (S : Addr) (hS : S ∉ fp) (ts : List Str) (hv : ∀ i v, P i v → ∃ x t, ts[i]? = some x ∧ v = .str x t) (hl : ts.length = n) (hb : n + 1 < scanBound) :
    ∀ (k i : Nat) (acc : List Str) (s : Shared), i + k = n → acc.length ≤ i → St i s → TSetL prog w s.heap S acc →
      (∀ s', Moved (S :: wr) G s s' → TSetL prog w s'.heap S (metS acc (ts.drop i)) → R (.ok (.ret .none)) s') →
      codeAny (model prog w) A (.builtin "set.update.loop" ⟨[.ref S, .ref I], []⟩) R s := by
  have nw : S ∉ wr := fun z => hS (W.sub S z)
  have up : ∀ b ∈ wr, b ∈ S :: wr := fun b z => List.mem_cons_of_mem S z
  intro k
  induction k with
  | zero =>
    intro i acc s ek _ st t fin
    have e : i = n := by omega
    subst e
    refine codeAny_builtin PyProof.Rows.F.entry_set_update_loop ?_
    rw [Around.under_plainId PyProof.Rows.F.plain_set_update_loop _]
    show wpAny _ A.in1 (pyNext (.ref I) >>= _) _ _ s
    refine wpAny_bind (W.done s _ _ st fun s1 mv => ?_)
    show wpAny _ A.in1 (ret Value.none) _ _ s1
    refine wpAny_pure (fin s1 (mv.mono up) ?_)
    rw [List.drop_eq_nil_of_le (by omega)]
    exact t.kept fun o z => mv.heap S o nw z
  | succ k ih =>
    intro i acc s ek ea st t fin
    refine codeAny_builtin PyProof.Rows.F.entry_set_update_loop ?_
    rw [Around.under_plainId PyProof.Rows.F.plain_set_update_loop _]
    show wpAny _ A.in1 (pyNext (.ref I) >>= _) _ _ s
    refine wpAny_bind (W.item i s _ _ (by omega) st fun v s1 pv st1 mv => ?_)
    obtain ⟨x, tk, hx, rfl⟩ := hv i v pv
    have t1 : TSetL prog w s1.heap S acc := t.kept fun o z => mv.heap S o nw z
    have hd : ts.drop i = x :: ts.drop (i + 1) := by
      have hi : i < ts.length := by omega
      rw [List.drop_eq_getElem_cons hi]
      have : ts[i] = x := by rw [List.getElem?_eq_getElem hi] at hx; exact Option.some.inj hx
      rw [this]
    show wpAny _ A.in1 (holding [Value.str x tk] (setAdd S (.str x tk)) >>= _) _ _ s1
    refine wpAny_bind (wpAny_holding ?_)
    unfold setAdd
    refine wpAny_holding ?_
    refine wpAny_bind ((strKind prog w).pyHash (k := x) (strKind_is prog w x tk) ?_)
    refine add_led (s := { s1 with toks := s1.toks + 1 }) t1 (by omega) fun h2 bb same t2 => ?_
    have key : ∃ acc', TSetL prog w h2 S acc' ∧ acc'.length ≤ i + 1 ∧ metS acc (ts.drop i) = metS acc' (ts.drop (i + 1)) := by
      by_cases hm : x ∈ acc
      · rw [if_pos hm] at t2
        exact ⟨acc, t2, by omega, by rw [hd, metS, if_pos hm]⟩
      · rw [if_neg hm] at t2
        exact ⟨acc ++ [x], t2, by simp; omega, by rw [hd, metS, if_neg hm]⟩
    obtain ⟨acc', t3, l3, e3⟩ := key
    refine wpAny_pure ⟨plainId_quiet PyProof.Rows.F.plain_set_update_loop _, ih (i + 1) acc' _ (by omega) l3 (W.frame _ s1 _ _ st1 (Nat.le_succ _) fun b z o e => ?_) t3 fun s4 mv4 t4 => ?_⟩
    · rw [same.2 b fun y : b = S => hS (y ▸ z)]; exact e
    · refine fin s4 (Moved.trans W.gtrans ((mv.mono up).then_heap (Nat.le_succ _) fun b o z e => ?_) mv4) (by rw [e3]; exact t4)
      rw [same.2 b fun y : b = S => z (y ▸ List.mem_cons_self)]; exact e
end
section
variable {prog : Program} {w : World} {A : Around} {E : Value → Shared → Prop} {s : Shared}
theorem new_set_led (a : Value) {Q₁ : Value → Shared → Prop}
    (h : ∀ led : Bool, (led = true ∨ w.params.followText "set-order" = true) → Q₁ (.ref s.heap.objs.size) { s with heap := s.heap.push (bareSet led) }) :
    codeAny (model prog w) A (.call (.builtin "set.__new__") ⟨[.type "set", a], []⟩) (wants Q₁ E) s := by
  refine codeAny_of_tree ?_
  show wpAny _ A.in1 (checkBuiltinCall "set.__new__" ⟨[.type "set", a], []⟩ >>= fun _ => again (.builtin "set.__new__" ⟨[.type "set", a], []⟩)) _ _ s
  refine wpAny_bind (wpAny_of_eq (F.newCall_set_1 a) ?_)
  refine wpAny_pure ⟨plainId_quiet F.plain_set_new _, codeAny_builtin F.entry_set_new ?_⟩
  rw [Around.under_plainId F.plain_set_new _]
  unfold Builtin.«set.__new__»
  unfold Builtin.Frozenset.newClass
  have hsub := sub_set_self
  obtain ⟨hp, g, d, tk, os⟩ := s
  dsimp only
  wp_walk
  refine wpAny_askSetting (wpAny_pure ?_)
  dsimp only
  simp only [newObj]
  refine wpAny_bind (wpAny_alloc (wpAny_pure (wpAny_pure (h _ ?_))))
  cases hb : w.params.followText "set-order"
  · exact .inl (by show (!w.params.followText "set-order") = true; rw [hb]; rfl)
  · exact .inr rfl
set_option maxHeartbeats 3200000 in
theorem call_set_led {l : Addr} {its : Array Value} {ts : List Str} {Q : Value → Shared → Prop} (calm : A.handled = none) (hl : s.heap.IsList l its) (hi : TextsAt its ts) (room : its.size + 1 < scanBound)
    (fin : ∀ (h' : Heap) (tk : Nat), TSetL prog w h' s.heap.objs.size (metS [] ts) → (∀ b o, s.heap.get? b = some o → h'.get? b = some o) → Q (.ref s.heap.objs.size) { s with heap := h', toks := tk }) :
    wpAny (model prog w) A (call (.type "set") [.ref l]) Q E s := by
  have mro := F.called_set.mro
  obtain ⟨c, tl, hmro⟩ := mro
  have made := F.called_set.made
  have sub := F.called_set.sub
  have a1 := F.called_set.notType
  have a2 := F.called_set.canCreate
  have a3 := F.typeCall_set_1 (.ref l)
  refine wpAny_call (codeAny_of_tree ?_)
  show wpAny _ _ (callAny (.type "set") _) _ _ _
  refine wpAny_pure ⟨Code.quiet_builtin _ (by decide +kernel), codeAny_builtin F.entry_type_call ?_⟩
  rw [Around.under_plain (weight_type_call_type "set" [.ref l] []) rfl]
  repeat (any_goals (first | wp_step | assumption))
  refine codeAny_mono (new_set_led (.ref l) (E := E) (Q₁ := fun v s1 => ∃ led : Bool, (led = true ∨ w.params.followText "set-order" = true) ∧ v = .ref s.heap.objs.size ∧ s1 = { s with heap := s.heap.push (bareSet led) }) fun led hl => ⟨led, hl, rfl, rfl⟩) fun r s1 hr => ?_
  cases r with
  | error e => exact hr
  | ok f =>
    cases f with
    | ret v =>
      obtain ⟨led, hled, rfl, rfl⟩ := hr
      have own : (s.heap.push (bareSet led)).get? s.heap.objs.size = some (bareSet led) := Heap.get?_push_size _ rfl
      have ty : Shared.TypeIs { s with heap := s.heap.push (bareSet led) } (.ref s.heap.objs.size) "set" := ⟨_, own, rfl⟩
      have b1 := F.called_set.init.lookup
      have b2 := F.called_set.init.bind (.ref s.heap.objs.size)
      repeat (any_goals (first | wp_step | assumption))
      refine codeAny_mono (codeAny_call_builtin (R := wants (fun r s2 => r = .none ∧ ∃ h' tk, s2 = { s with heap := h', toks := tk } ∧ TSetL prog w h' s.heap.objs.size (metS [] ts) ∧ ∀ b o, s.heap.get? b = some o → h'.get? b = some o) E) F.called_set.init.plain F.entry_set_init (check_set_init_1 ty ?_)) fun r2 s2 hr2 => ?_
      · have lst : (s.heap.push (bareSet led)).IsList l its := hl.push _
        obtain ⟨ol, hol, hcl, nl, hdl⟩ := hl
        obtain ⟨cl, dc, dt, sl⟩ := ol
        have hcl' : cl = .type "list" := hcl
        have hdl' : dt = .seq its nl := hdl
        subst hcl' hdl'
        have old : l < s.heap.objs.size := Heap.lt_size hol
        have hol' : (s.heap.push (bareSet led)).get? l = some { cls := .type "list", dict := dc, data := .seq its nl, slots := sl } := Heap.get?_push_of_some _ hol
        have c1 := F.sub_list_set
        have c2 := F.sub_list_frozenset
        have c3 : (Value.type "list" == Value.type "dict") = false := by decide
        unfold Builtin.«set.__init__» noKeywords Builtin.Frozenset.updateFrom
        generalize ePI : pyIter = PI
        wp_walk
        subst ePI
        refine wpAny_pyIter_list lst ?_
        refine wpAny_bind (wpAny_runValue ?_)
        have calm3 : A.in1.in1.in1.handled = none := by simp [calm]
        have sz : (s.heap.push (bareSet led)).objs.size = s.heap.objs.size + 1 := Heap.size_push _ _
        have apart : l ≠ (s.heap.push (bareSet led)).objs.size := by rw [sz]; exact Nat.ne_of_lt (Nat.lt_succ_of_lt old)
        have free : s.heap.objs.size ∉ [(s.heap.push (bareSet led)).objs.size, l] := by
          rw [sz]
          intro z
          rcases List.mem_cons.mp z with z | z
          · exact absurd z (Nat.ne_of_lt (Nat.lt_succ_self _))
          · exact absurd (List.mem_singleton.mp z) (Nat.ne_of_gt old)
        refine loop_led ((Walks.list calm3 _ l apart its).toS) s.heap.objs.size free ts (fun i v hv => hi.2 i v hv) hi.1 room its.size 0 [] _ (by omega) (Nat.zero_le _) ⟨⟨_, Heap.get?_push_size _ rfl, rfl, rfl⟩, lst.push _⟩ ?S0 ?fin
        case S0 =>
          exact ⟨_, #[], 0, _, Heap.get?_push_of_some _ own, ⟨rfl, rfl, rfl⟩, rfl, fun e he => by simp at he, fun k => by simp, by decide, by rfl, rfl, hled, .inl rfl⟩
        case fin =>
          rintro ⟨h5, g5, d5, tk5, os5⟩ mv t5
          have e1 : g5 = s.gens := mv.gens
          have e2 : d5 = s.drawn := mv.drawn
          have e3 : os5 = s.os := mv.os
          subst e1 e2 e3
          show wpAny _ _ _ _ _ _
          refine wpAny_pure ?_
          show wpAny _ _ (ret Value.none) _ _ _
          refine wpAny_pure ⟨rfl, h5, tk5, rfl, t5, fun b o z => ?_⟩
          have hbl := Heap.lt_size z
          refine mv.heap b o (fun y => ?_) (Heap.get?_push_of_some _ (Heap.get?_push_of_some _ z))
          rw [sz] at y
          rcases List.mem_cons.mp y with y | y
          · exact absurd y (Nat.ne_of_lt hbl)
          · exact absurd (List.mem_singleton.mp y) (Nat.ne_of_lt (Nat.lt_succ_of_lt hbl))
      · cases r2 with
        | error e => exact hr2
        | ok f2 =>
          cases f2 with
          | ret v2 =>
            obtain ⟨rfl, h6, tk6, rfl, t6, k6⟩ := hr2
            repeat (any_goals (first | wp_step | assumption))
            exact fin h6 tk6 t6 k6
          | _ => exact hr2.elim
    | _ => exact hr.elim
end
end RB

set_option maxRecDepth 100000
namespace RB
open PySem L2 PySem.Spec PyProof.Rows
namespace SI
theorem nextS : Slot "set_iterator" "__next__" "set_iterator.__next__" := .of (owner := "set_iterator") (n := "__next__")
  (by rw [typeLookup_type, builtinLookup_eq_fast]; kernel_rfl) (by decide +kernel)
  (by decide +kernel) (by decide +kernel)
  (by first
      | exact .inl (by decide +kernel)
      | exact .inr (by decide +kernel))
  (by rw [isSubtype_type]; kernel_rfl)
theorem nextE : entryFor table "set_iterator.__next__" = some Builtin.«set_iterator.__next__» :=
  entryFor_of_tree (by kernel_rfl)
theorem own : Manifest.owners.lookup (String.ofList "rotareti_tes".toList.reverse) = some Manifest.sig_set_iterator := by
  kernel_rfl
theorem nextA (a : Value) : argsOk "set_iterator.__next__" ⟨[a], []⟩ := by
  unfold argsOk
  rw [signature?_of (id := "set_iterator.__next__") (n := "__txen__".toList) (o := "rotareti_tes".toList) (by kernel_rfl) own]
  kernel_rfl
theorem iterE : entryFor table "set.__iter__" = some Builtin.«frozenset.__iter__» :=
  entryFor_alias (id' := "frozenset.__iter__") (by kernel_rfl) rfl (by decide +kernel) (by kernel_rfl)
end SI
/-- a set's iterator at its i-th -/
noncomputable def SIt (h : Heap) (I a : Addr) (fv : Value) (i n ep : Nat) : Prop := ∃ o, h.get? I = some o ∧ o.cls = .type "set_iterator" ∧ o.data = .fields #[fv, .int i 0, .ref a, .int n 0, .int ep 0]
theorem SIt.typ {s : Shared} {I a : Addr} {fv : Value} {i n ep : Nat} (h : SIt s.heap I a fv i n ep) : s.TypeIs (.ref I) "set_iterator" := let ⟨o, ho, hc, _⟩ := h; ⟨o, ho, hc⟩
theorem SIt.at {h h' : Heap} {I a : Addr} {fv : Value} {i n ep : Nat} (x : SIt h I a fv i n ep) (e : ∀ o, h.get? I = some o → h'.get? I = some o) : SIt h' I a fv i n ep := let ⟨o, ho, r⟩ := x; ⟨o, e _ ho, r⟩
/-- the set itself, as it lies -/
noncomputable def SAt (h : Heap) (a : Addr) (es : Array (Int × Value)) (ep : Nat) (t : SetTable) : Prop := ∃ o, h.get? a = some o ∧ o.ExactSet ∧ o.data = .set es ep t ∧ t.fits es.size = true
theorem SAt.at {h h' : Heap} {a : Addr} {es : Array (Int × Value)} {ep : Nat} {t : SetTable} (x : SAt h a es ep t) (e : ∀ o, h.get? a = some o → h'.get? a = some o) : SAt h' a es ep t := let ⟨o, ho, r⟩ := x; ⟨o, e _ ho, r⟩
section
variable {prog : Program} {w : World} {A : Around} {E : Value → Shared → Prop} {s : Shared}
theorem put_it {I a : Addr} {x0 x1 x2 x3 x4 : Value} {Q : Unit → Shared → Prop} (h : ∃ o, s.heap.get? I = some o ∧ o.cls = .type "set_iterator" ∧ o.data = .fields #[x0, x1, x2, x3, x4]) (k : Nat) (hk : k < 5) (v : Value)
    (q : ∀ h', (∃ o, h'.get? I = some o ∧ o.cls = .type "set_iterator" ∧ o.data = .fields (#[x0, x1, x2, x3, x4].setIfInBounds k v)) → Heap.SameBut I s.heap h' → Q () { s with heap := h' }) : wpAny (model prog w) A (setField (.ref I) k v) Q E s := by
  obtain ⟨o, ho, hc, hd⟩ := h
  refine wpAny_setField ho hd (by simpa using hk) (q _ ⟨_, Heap.get?_update_self _ ho (Obj.isFreed_of_fields (Obj.data_mapFields hd _)), (Obj.cls_mapFields ..).trans hc, by rw [Obj.data_mapFields hd]⟩ (Heap.SameBut.update ..))
/-- the end: the set is let go, StopIteration -/
theorem stop_it {I : Addr} {x0 x1 x2 x3 x4 : Value} {Q : Option Value → Shared → Prop} {P : Fin → Shared → Prop} (hh : A.handled = none) (h : ∃ o, s.heap.get? I = some o ∧ o.cls = .type "set_iterator" ∧ o.data = .fields #[x0, x1, x2, x3, x4])
    (q : ∀ h', Heap.ExtBut I s.heap h' → Q none { s with heap := h' }) :
    wpAny (model prog w) A.in1 (setField (.ref I) 2 Value.none >>= fun _ => newExc (.type "StopIteration") [] >>= raiseNew) P (fun e s' => wpAny (model prog w) A (isInstance e (.type "StopIteration") >>= fun b => if b = true then pure none else throw e) Q E s') s := by
  refine wpAny_bind (put_it (a := I) h 2 (by omega) _ fun h1 _ sb => ?_)
  refine wpAny_bind ?_
  simp only [newExc, newTuple]
  refine wpAny_bind (wpAny_newObj_type ?_ (by size_fits))
  refine wpAny_bind (m := firstArgMember _ _) (wpAny_of_eq (a := Value.none) (by first | rfl | (simp only [firstArgMember]; rfl)) ?_)
  refine wpAny_newObj_type ?_ (by size_fits)
  simp only [raiseNew]
  refine wpAny_bind (wpAny_handled ?_)
  rw [show A.in1.handled = none from hh]
  refine wpAny_bind (wpAny_pure (wpAny_throw (wpAny_bind ?_)))
  refine wpAny_isInstance (T := "StopIteration") (b := true) ⟨_, Heap.get?_push_size _ rfl, rfl⟩ isSubtype_stop ?_
  exact wpAny_pure (q _ ((sb.extBut.push _).push _))
theorem next_int {I a : Addr} {es : Array (Int × Value)} {ep sl : Nat} {t : SetTable} {i : Nat} {r : Option (Value × Nat)} {Q : Option Value → Shared → Prop} (hh : A.handled = none) (hit : SIt s.heap I a (.int sl 0) i es.size ep) (hs : SAt s.heap a es ep t)
    (hN : ∀ A' E' (Q' : Option (Value × Nat) → Shared → Prop), Q' r s → wpAny (model prog w) A' (setNext a sl i ep) Q' E' s)
    (h1 : ∀ x sl' h', r = some (x, sl') → SIt h' I a (.int sl' 0) (i + 1) es.size ep → Heap.SameBut I s.heap h' → Q (some x) { s with heap := h' })
    (h0 : ∀ h', r = none → Heap.ExtBut I s.heap h' → Q none { s with heap := h' }) : wpAny (model prog w) A (pyNext (.ref I)) Q E s := by
  obtain ⟨o, ho, hc, hd⟩ := id hit
  obtain ⟨oa, hoa, hxa, hda, hfa⟩ := id hs
  unfold pyNext
  refine wpAny_bind (wpAny_attempt (wpAny_callSpecial?_slot (name := Str.ofString "__next__") hit.typ SI.nextS (wpAny_call_entry SI.nextS hit.typ SI.nextE ?_ (SI.nextA _))))
  unfold Builtin.«set_iterator.__next__»
  refine wpAny_bind (wpAny_pure (wpAny_bind (wpAny_fieldsOf ho hd ?_)))
  dsimp only
  refine wpAny_bind (wpAny_setEntries_of hoa hda hfa ?_)
  rw [if_neg (by simp)]
  refine wpAny_bind (hN _ _ _ ?_)
  cases r with
  | none => exact stop_it hh ⟨o, ho, hc, hd⟩ fun h' e => h0 h' rfl e
  | some xs =>
    obtain ⟨x, sl'⟩ := xs
    refine wpAny_bind (put_it (a := a) ⟨o, ho, hc, hd⟩ 0 (by omega) _ fun h2 k2 sb2 => ?_)
    refine wpAny_bind (put_it (s := { s with heap := h2 }) (a := a) k2 1 (by omega) _ fun h3 k3 sb3 => ?_)
    exact wpAny_pure ⟨_, rfl, wpAny_pure (h1 x sl' h3 rfl (by simpa [SIt, rawInt] using k3) (sb2.trans sb3))⟩
theorem next_drawn {I a tp : Addr} {es : Array (Int × Value)} {ep : Nat} {t : SetTable} {i : Nat} {pl : List Nat} {Q : Option Value → Shared → Prop} (hh : A.handled = none) (hit : SIt s.heap I a (.ref tp) i es.size ep) (hs : SAt s.heap a es ep t)
    (ht : ∃ n, s.heap.get? tp = some (seqObj "tuple" (pl.map fun (k : Nat) => rawInt k).toArray n))
    (h1 : ∀ (p : Nat) e h', pl[i]? = some p → es[p]? = some e → SIt h' I a (.ref tp) (i + 1) es.size ep → Heap.SameBut I s.heap h' → Q (some e.2) { s with heap := h' })
    (hp : ∀ p ∈ pl, p < es.size)
    (h0 : ∀ h', pl.length ≤ i → Heap.ExtBut I s.heap h' → Q none { s with heap := h' }) : wpAny (model prog w) A (pyNext (.ref I)) Q E s := by
  obtain ⟨o, ho, hc, hd⟩ := id hit
  obtain ⟨oa, hoa, hxa, hda, hfa⟩ := id hs
  obtain ⟨nt, hot⟩ := ht
  unfold pyNext
  refine wpAny_bind (wpAny_attempt (wpAny_callSpecial?_slot (name := Str.ofString "__next__") hit.typ SI.nextS (wpAny_call_entry SI.nextS hit.typ SI.nextE ?_ (SI.nextA _))))
  unfold Builtin.«set_iterator.__next__»
  refine wpAny_bind (wpAny_pure (wpAny_bind (wpAny_fieldsOf ho hd ?_)))
  dsimp only
  refine wpAny_bind (wpAny_setEntries_of hoa hda hfa ?_)
  rw [if_neg (by simp)]
  refine wpAny_bind (wpAny_seqItems hot rfl ?_)
  dsimp only
  rw [show ((i : Int)).toNat = i from Int.toNat_natCast i]
  cases hpi : pl[i]? with
  | none =>
    have e : (pl.map fun (k : Nat) => rawInt k).toArray[i]? = none := by simp [hpi]
    rw [e]
    refine wpAny_bind (put_it (a := a) ⟨o, ho, hc, hd⟩ 0 (by omega) _ fun h2 k2 sb2 => ?_)
    exact stop_it (s := { s with heap := h2 }) hh k2 fun h' e => h0 h' (List.getElem?_eq_none_iff.mp hpi) fun b o hb z => e b o hb (sb2.extBut b o hb z)
  | some p =>
    have e : (pl.map fun (k : Nat) => rawInt k).toArray[i]? = some (rawInt p) := by simp [hpi]
    have hpe : es[p]? = some (es[p]'(hp p (List.mem_of_getElem? hpi))) := getElem?_pos ..
    rw [e]
    show wpAny _ _ (setNextDrawn a ((p : Int)).toNat ((ep : Int)).toNat >>= _) _ _ s
    rw [show ((p : Int)).toNat = p from Int.toNat_natCast p, show ((ep : Int)).toNat = ep from Int.toNat_natCast ep]
    unfold setNextDrawn
    refine wpAny_bind (wpAny_bind (wpAny_setState_of hoa hda hfa ?_))
    dsimp only
    rw [if_neg (by simp), hpe]
    refine wpAny_pure (wpAny_bind (put_it (a := a) ⟨o, ho, hc, hd⟩ 1 (by omega) _ fun h2 k2 sb2 => ?_))
    exact wpAny_pure ⟨_, rfl, wpAny_pure (h1 p _ h2 hpi hpe (by simpa [SIt, rawInt] using k2) sb2)⟩
end
end RB

set_option maxRecDepth 100000
namespace RB
open PySem L2 PySem.Spec PyProof.Rows
namespace SI
theorem iterS : Slot "set_iterator" "__iter__" "set_iterator.__iter__" := .of (owner := "set_iterator") (n := "__iter__")
  (by rw [typeLookup_type, builtinLookup_eq_fast]; kernel_rfl) (by decide +kernel)
  (by decide +kernel) (by decide +kernel)
  (by first
      | exact .inl (by decide +kernel)
      | exact .inr (by decide +kernel))
  (by rw [isSubtype_type]; kernel_rfl)
theorem iterI : entryFor table "set_iterator.__iter__" = some Builtin.«dict_keyiterator.__iter__» :=
  entryFor_alias (id' := "dict_keyiterator.__iter__") (by kernel_rfl) rfl (by decide +kernel) (by kernel_rfl)
theorem iterA (a : Value) : argsOk "set_iterator.__iter__" ⟨[a], []⟩ := by
  unfold argsOk
  rw [signature?_of (id := "set_iterator.__iter__") (n := "__reti__".toList) (o := "rotareti_tes".toList) (by kernel_rfl) own]
  kernel_rfl
end SI
theorem cut_perm {α : Type} : ∀ (l : List α) (i : Nat) (h : i < l.length), (l[i] :: l.eraseIdx i).Perm l
  | x :: l, 0, _ => List.Perm.refl _
  | x :: l, i + 1, h => by
    have hi : i < l.length := by simpa using h
    show (l[i] :: x :: l.eraseIdx i).Perm (x :: l)
    exact (List.Perm.swap _ _ _).trans ((cut_perm l i hi).cons x)
theorem pick_go {α : Type} (f : Nat → Nat) : ∀ (n k : Nat) (l : List α) (out : Array α), n = l.length → (pickOrder.go f n k l out).toList.Perm (out.toList ++ l)
  | 0, k, l, out, h => by
    rw [List.eq_nil_of_length_eq_zero h.symm]
    unfold pickOrder.go
    simp
  | n + 1, k, l, out, h => by
    have hi : f k % l.length < l.length := Nat.mod_lt _ (by omega)
    unfold pickOrder.go
    rw [List.getElem?_eq_getElem hi]
    refine (pick_go f n (k + 1) _ _ (by rw [List.length_eraseIdx_of_lt hi]; omega)).trans ?_
    rw [Array.toList_push, List.append_assoc]
    exact List.Perm.append_left _ (cut_perm _ _ hi)
theorem pick_perm {α : Type} (f : Nat → Nat) (xs : Array α) : (pickOrder f xs).toList.Perm xs.toList := by
  have := pick_go f xs.size 0 xs.toList #[] (by simp)
  simpa [pickOrder] using this
noncomputable def oneR (es : Array (Int × Value)) (pl : Array Nat) (sl : Nat) : Option (Value × Nat) := match es[SetTable.below pl sl]?, pl[SetTable.below pl sl]? with
  | some (_, x), some j => some (x, j + 1)
  | _, _ => none
theorem one_r : ∀ {es : Array (Int × Value)} {pl : Array Nat} {sl i : Nat}, pl.size = es.size → es.size ≤ 1 → ((i = 0 ∧ sl = 0) ∨ (i = es.size ∧ ∀ j, pl[0]? = some j → j < sl)) →
    ∃ sl' : Nat, (i + 1 = es.size → ∀ j, pl[0]? = some j → j < sl') ∧ oneR es pl sl = ((es.toList.map (·.2))[i]?).map fun x => (x, sl')
  | ⟨[]⟩, ⟨[]⟩, sl, i, _, _, _ => ⟨0, fun h => absurd h (by simp), by simp [oneR]⟩
  | ⟨[e]⟩, ⟨[j]⟩, sl, i, _, _, hi => by
    have hbl : SetTable.below #[j] sl = if j < sl then 1 else 0 := by
      unfold SetTable.below
      show SetTable.below.go #[j] sl 1 0 1 = _
      unfold SetTable.below.go
      rw [if_pos (by omega)]
      show (if j < sl then SetTable.below.go #[j] sl 0 1 1 else SetTable.below.go #[j] sl 0 0 0) = _
      unfold SetTable.below.go
      rfl
    unfold oneR
    rw [hbl]
    rcases hi with ⟨rfl, rfl⟩ | ⟨rfl, hj⟩
    · rw [if_neg (by omega)]
      exact ⟨j + 1, fun _ j' e => by simp at e; omega, by simp⟩
    · rw [if_pos (hj j (by simp))]
      exact ⟨0, fun h => absurd h (by simp), by simp⟩
  | ⟨[]⟩, ⟨_ :: _⟩, _, _, h, _, _ => by simp at h
  | ⟨[_]⟩, ⟨[]⟩, _, _, h, _, _ => by simp at h
  | ⟨[_]⟩, ⟨_ :: _ :: _⟩, _, _, h, _, _ => by simp at h
  | ⟨_ :: _ :: _⟩, _, _, _, _, h, _ => by simp at h
section
variable {prog : Program} {w : World} {A : Around} {E : Value → Shared → Prop} {s : Shared}
theorem wpAny_draw {src : Source} {n : Nat} {Q : Nat → Shared → Prop} (hn : 0 < n) (h : ∀ i d, i < n → Q i { s with drawn := d }) : wpAny (model prog w) A (choose src n) Q E s :=
  fun Γ p hΓ => ⟨by omega, h _ _ (Nat.mod_lt _ hn)⟩
theorem draw_all {α : Type} : ∀ (n : Nat) (xs : List α) {s : Shared} {Q : List α → Shared → Prop}, n = xs.length → (∀ ys d, ys.Perm xs → Q ys { s with drawn := d }) → wpAny (model prog w) A (drawOrder n xs) Q E s
  | 0, xs, s, Q, h, q => by
    obtain rfl : xs = [] := List.eq_nil_of_length_eq_zero h.symm
    exact wpAny_pure (q [] s.drawn (List.Perm.refl _))
  | n + 1, x :: xs, s, Q, h, q => by
    unfold drawOrder
    refine wpAny_bind (wpAny_draw (by simp) fun i d hi => ?_)
    rw [List.getElem?_eq_getElem hi]
    refine wpAny_bind (draw_all n _ (by rw [List.length_eraseIdx_of_lt hi]; omega) fun ys d' hp => wpAny_pure (q _ _ ?_))
    exact (hp.cons _).trans (cut_perm _ _ hi)
theorem self_it {I a : Addr} {fv : Value} {i n ep : Nat} {Q : Value → Shared → Prop} (hit : SIt s.heap I a fv i n ep) (h : Q (.ref I) s) : wpAny (model prog w) A (pyIter (.ref I)) Q E s := by
  refine wpAny_pyIter_slot hit.typ SI.iterS (wpAny_call_entry SI.iterS hit.typ SI.iterI ?_ (SI.iterA _))
  show wpAny _ _ (ret (.ref I)) _ _ s
  exact wpAny_pure ⟨_, rfl, "set_iterator", _, hit.typ, SI.nextS.lookup, h⟩
/-- gone through by the text's order -/
theorem next_text {a : Addr} {es : Array (Int × Value)} {ep sl i : Nat} {t : SetTable} {Q : Option (Value × Nat) → Shared → Prop} (hs : SAt s.heap a es ep t) (hb : w.params.followText "set-order" = true)
    (q : Q (((pickOrder (w.params.setOrder a ep) es).toList.map (·.2))[i]?.map fun x => (x, sl)) s) : wpAny (model prog w) A (setNext a sl i ep) Q E s := by
  obtain ⟨oa, hoa, hxa, hda, hfa⟩ := id hs
  unfold setNext
  refine wpAny_bind (wpAny_setState_of hoa hda hfa ?_)
  dsimp only
  unfold setsByText
  refine wpAny_bind (wpAny_bind (wpAny_askSetting (wpAny_pure ?_)))
  rw [show (model prog w).w.params.followText "set-order" = true from hb, if_pos rfl, if_neg (by simp)]
  unfold setWalk setsByText
  refine wpAny_bind (wpAny_bind (wpAny_setState_of hoa hda hfa ?_))
  dsimp only
  refine wpAny_bind (wpAny_bind (wpAny_askSetting (wpAny_pure ?_)))
  rw [show (model prog w).w.params.followText "set-order" = true from hb, if_pos rfl]
  refine wpAny_bind (wpAny_askSetting (wpAny_pure (wpAny_pure ?_)))
  have e : ∀ (o : Option (Int × Value)), o.map (fun e => (e.2, sl)) = (o.map (·.2)).map fun x => (x, sl) := fun o => by cases o <;> rfl
  rw [e]
  rw [List.getElem?_map, Array.getElem?_toList] at q
  exact q
/-- at most one in it: by its place -/
theorem next_one {a : Addr} {es : Array (Int × Value)} {ep sl i : Nat} {t : SetTable} {Q : Option (Value × Nat) → Shared → Prop} (hs : SAt s.heap a es ep t) (hb : w.params.followText "set-order" = false) (hl : t.led = true) (h1 : es.size ≤ 1)
    (q : Q (oneR es t.place sl) s) : wpAny (model prog w) A (setNext a sl i ep) Q E s := by
  obtain ⟨oa, hoa, hxa, hda, hfa⟩ := id hs
  unfold setNext
  refine wpAny_bind (wpAny_setState_of hoa hda hfa ?_)
  dsimp only
  unfold setsByText
  refine wpAny_bind (wpAny_bind (wpAny_askSetting (wpAny_pure ?_)))
  rw [show (model prog w).w.params.followText "set-order" = false from hb, if_neg (by simp)]
  rw [if_neg (by
    show ¬ ((!t.plain && decide (es.size > 1)) = true)
    simp; omega)]
  refine wpAny_bind ?_
  show wpAny _ _ (if (!t.led && !es.isEmpty) = true then unsupported "set:maker-not-led" else pure ()) _ _ s
  rw [if_neg (by rw [hl]; simp)]
  exact wpAny_pure (wpAny_pure q)
end
end RB

set_option maxRecDepth 100000
namespace RB
open PySem L2 PySem.Spec PyProof.Rows
section
variable {prog : Program} {w : World} {A : Around} {E : Value → Shared → Prop} {s : Shared}
noncomputable def TupN (h : Heap) (tp : Addr) (pl : List Nat) : Prop := ∃ n, h.get? tp = some (seqObj "tuple" (pl.map fun (k : Nat) => rawInt k).toArray n)
theorem walkT (hh : A.handled = none) (I a : Addr) (hne : a ≠ I) (es : Array (Int × Value)) (ep : Nat) (t : SetTable) (hb : w.params.followText "set-order" = true) :
    Walks prog w A I [I, a] [I] es.size (fun i v => ((pickOrder (w.params.setOrder a ep) es).toList.map (·.2))[i]? = some v) (fun i h => SIt h I a (.int (0 : Nat) 0) i es.size ep ∧ SAt h a es ep t) where
  sub := fun b hb => by simp at hb; simp [hb]
  frame := fun _ _ _ st hk => ⟨st.1.at fun o e => hk I (by simp) o e, st.2.at fun o e => hk a (by simp) o e⟩
  item := fun i s Q E hi st hQ => by
    have hlen : ((pickOrder (w.params.setOrder a ep) es).toList.map (·.2)).length = es.size := by rw [List.length_map, (pick_perm _ es).length_eq, Array.length_toList]
    refine next_int hh st.1 st.2 (fun A' E' Q' q => next_text st.2 hb q) (fun x sl' h' e hit sb => ?_) fun h' e _ => ?_
    · rw [List.getElem?_eq_getElem (by omega)] at e
      obtain ⟨rfl, rfl⟩ := Prod.mk.inj (Option.some.inj e)
      exact hQ _ h' s.toks (List.getElem?_eq_getElem _) ⟨hit, st.2.at fun o z => sb.extBut a o hne z⟩ fun b o hb z => sb.extBut b o (fun y => hb (by simp [y])) z
    · rw [List.getElem?_eq_getElem (by omega)] at e
      exact absurd e (by simp)
  done := fun s Q E st hQ => by
    have hlen : ((pickOrder (w.params.setOrder a ep) es).toList.map (·.2)).length = es.size := by rw [List.length_map, (pick_perm _ es).length_eq, Array.length_toList]
    refine next_int hh st.1 st.2 (fun A' E' Q' q => next_text st.2 hb q) (fun x sl' h' e hit sb => ?_) fun h' _ ex => hQ h' s.toks fun b o hb z => ex b o (fun y => hb (by simp [y])) z
    rw [List.getElem?_eq_none (by omega)] at e
    exact absurd e (by simp)
  self := fun _ _ _ _ st hQ => self_it st.1 hQ
theorem walkO (hh : A.handled = none) (I a : Addr) (hne : a ≠ I) (es : Array (Int × Value)) (ep : Nat) (t : SetTable) (hb : w.params.followText "set-order" = false) (hl : t.led = true) (h1 : es.size ≤ 1) :
    Walks prog w A I [I, a] [I] es.size (fun i v => (es.toList.map (·.2))[i]? = some v) (fun i h => (∃ sl : Nat, SIt h I a (.int sl 0) i es.size ep ∧ ((i = 0 ∧ sl = 0) ∨ (i = es.size ∧ ∀ j, t.place[0]? = some j → j < sl))) ∧ SAt h a es ep t) where
  sub := fun b hb => by simp at hb; simp [hb]
  frame := fun _ _ _ st hk => ⟨let ⟨sl, k1, k2⟩ := st.1; ⟨sl, k1.at fun o e => hk I (by simp) o e, k2⟩, st.2.at fun o e => hk a (by simp) o e⟩
  item := fun i s Q E hi st hQ => by
    obtain ⟨⟨sl, hit, hor⟩, hs⟩ := st
    have hlen : (es.toList.map (·.2)).length = es.size := by simp
    have hps : t.place.size = es.size := by
      obtain ⟨_, _, _, _, hfa⟩ := hs
      simp only [SetTable.fits, Bool.and_eq_true, beq_iff_eq] at hfa; exact hfa.1
    obtain ⟨sl', k1, k2⟩ := one_r hps h1 hor
    refine next_int (r := oneR es t.place sl) hh hit hs (fun A' E' Q' q => next_one hs hb hl h1 q) (fun x sl2 h' e hit' sb => ?_) fun h' e _ => ?_
    · rw [k2, List.getElem?_eq_getElem (by omega)] at e
      obtain ⟨rfl, rfl⟩ := Prod.mk.inj (Option.some.inj e)
      exact hQ _ h' s.toks (List.getElem?_eq_getElem _) ⟨⟨_, hit', .inr ⟨by omega, k1 (by omega)⟩⟩, hs.at fun o z => sb.extBut a o hne z⟩ fun b o hb z => sb.extBut b o (fun y => hb (by simp [y])) z
    · rw [k2, List.getElem?_eq_getElem (by omega)] at e
      exact absurd e (by simp)
  done := fun s Q E st hQ => by
    obtain ⟨⟨sl, hit, hor⟩, hs⟩ := st
    have hps : t.place.size = es.size := by
      obtain ⟨_, _, _, _, hfa⟩ := hs
      simp only [SetTable.fits, Bool.and_eq_true, beq_iff_eq] at hfa; exact hfa.1
    obtain ⟨sl', k1, k2⟩ := one_r hps h1 hor
    refine next_int (r := oneR es t.place sl) hh hit hs (fun A' E' Q' q => next_one hs hb hl h1 q) (fun x sl2 h' e hit' sb => ?_) fun h' _ ex => hQ h' s.toks fun b o hb z => ex b o (fun y => hb (by simp [y])) z
    · rw [k2, List.getElem?_eq_none (by simp)] at e
      exact absurd e (by simp)
  self := fun _ _ _ _ st hQ => let ⟨sl, k1, _⟩ := st.1; self_it k1 hQ
theorem walkD (hh : A.handled = none) (I a tp : Addr) (hne : a ≠ I) (hnt : tp ≠ I) (es : Array (Int × Value)) (ep : Nat) (t : SetTable) (pl : List Nat) (hp : ∀ p ∈ pl, p < es.size) :
    Walks prog w A I [I, a, tp] [I] pl.length (fun i v => (pl.filterMap fun p => es[p]?.map (·.2))[i]? = some v) (fun i h => SIt h I a (.ref tp) i es.size ep ∧ SAt h a es ep t ∧ TupN h tp pl) where
  sub := fun b hb => by simp at hb; simp [hb]
  frame := fun _ _ _ st hk => ⟨st.1.at fun o e => hk I (by simp) o e, st.2.1.at fun o e => hk a (by simp) o e, let ⟨n, z⟩ := st.2.2; ⟨n, hk tp (by simp) _ z⟩⟩
  item := fun i s Q E hi st hQ => by
    have hall : ∀ (l : List Nat) (i p : Nat) (e : Int × Value), (∀ p ∈ l, p < es.size) → l[i]? = some p → es[p]? = some e → (l.filterMap fun p => es[p]?.map (·.2))[i]? = some e.2 := by
      intro l
      induction l with
      | nil => intro i p e _ h; simp at h
      | cons q l ih =>
        intro i p e hq h he
        have hq0 := hq q List.mem_cons_self
        rw [List.filterMap_cons_some (b := (es[q]'hq0).2) (by rw [getElem?_pos es q hq0]; rfl)]
        cases i with
        | zero =>
          obtain rfl : q = p := by simpa using h
          rw [getElem?_pos es q hq0] at he
          rw [← Option.some.inj he]; rfl
        | succ i => exact ih i p e (fun x hx => hq x (List.mem_cons_of_mem _ hx)) (by simpa using h) he
    refine next_drawn hh st.1 st.2.1 st.2.2 (fun p e h' e1 e2 hit sb => ?_) hp fun h' hl _ => absurd hi (by omega)
    exact hQ _ h' s.toks (hall pl i p e hp e1 e2) ⟨hit, st.2.1.at fun o z => sb.extBut a o hne z, let ⟨n, z⟩ := st.2.2; ⟨n, sb.extBut tp _ hnt z⟩⟩ fun b o hb z => sb.extBut b o (fun y => hb (by simp [y])) z
  done := fun s Q E st hQ => by
    refine next_drawn hh st.1 st.2.1 st.2.2 (fun p e h' e1 e2 hit sb => ?_) hp fun h' _ ex => hQ h' s.toks fun b o hb z => ex b o (fun y => hb (by simp [y])) z
    rw [List.getElem?_eq_none (Nat.le_refl _)] at e1
    exact absurd e1 (by simp)
  self := fun _ _ _ _ st hQ => self_it st.1 hQ
end
end RB

set_option maxRecDepth 100000
namespace RB
open PySem L2 PySem.Spec PyProof.Rows
section
variable {prog : Program} {w : World} {A : Around} {E : Value → Shared → Prop} {s : Shared}
/-- what is known of a set's new iterator: it gives the set's, in some order -/
noncomputable def WalkOf (prog : Program) (w : World) (es : Array (Int × Value)) (a : Addr) (lo : Nat) (I : Addr) (h : Heap) : Prop :=
  ∃ (ord : List Value) (fp : List Addr) (St : Nat → Heap → Prop), ord.Perm (es.toList.map (·.2)) ∧ (∀ A', A'.handled = none → Walks prog w A' I fp [I] es.size (fun i v => ord[i]? = some v) St) ∧ St 0 h ∧ ∀ b ∈ fp, b < h.objs.size ∧ (b = a ∨ lo ≤ b)
theorem range_vals (es : Array (Int × Value)) : ((List.range es.size).filterMap fun p => es[p]?.map (·.2)) = es.toList.map (·.2) := by
  have := filterMap_getElem?_range es
  rw [← this, List.map_filterMap]
theorem iter_set {a : Addr} {es : Array (Int × Value)} {ep : Nat} {t : SetTable} {Q : Value → Shared → Prop} (hs : SAt s.heap a es ep t) (hl : LedT w es t) (hz : es.size < scanBound)
    (q : ∀ (I : Addr) (h' : Heap) (d : Drawn), s.heap.objs.size ≤ I → (∀ b o, s.heap.get? b = some o → h'.get? b = some o) → WalkOf prog w es a s.heap.objs.size I h' → Q (.ref I) { s with heap := h', drawn := d }) : wpAny (model prog w) A (pyIter (.ref a)) Q E s := by
  obtain ⟨oa, hoa, hxa, hda, hfa⟩ := id hs
  have hT : s.TypeIs (.ref a) "set" := ⟨oa, hoa, hxa.1⟩
  have hlt := Heap.lt_size hoa
  have hz' : es.size ≤ sizeLine := fits_of_scanBound hz
  refine wpAny_pyIter_slot hT F.slot_set_iter (wpAny_call_entry F.slot_set_iter hT SI.iterE ?_ (F.args_set_iter_1 _))
  unfold Builtin.«frozenset.__iter__»
  refine wpAny_bind (wpAny_pure ?_)
  unfold Builtin.Frozenset.sizeOf
  refine wpAny_bind (wpAny_bind (wpAny_setEntries_of hoa hda hfa (wpAny_pure ?_)))
  unfold setDrawn
  refine wpAny_bind (wpAny_bind (wpAny_setState_of hoa hda hfa ?_))
  dsimp only
  unfold setsByText
  refine wpAny_bind (wpAny_bind (wpAny_askSetting (wpAny_pure (wpAny_pure ?_))))
  show wpAny _ _ (if (!w.params.followText "set-order" && (!t.plain && decide (es.size > 1))) = true then _ else _) _ _ s
  have mk : ∀ (fv : Value) (h1 : Heap) (d : Drawn), (∀ b o, s.heap.get? b = some o → h1.get? b = some o) → s.heap.objs.size ≤ h1.objs.size →
      (∀ h2, SIt h2 h1.objs.size a fv 0 es.size ep → (∀ b o, h1.get? b = some o → h2.get? b = some o) → h2.objs.size = h1.objs.size + 1 → WalkOf prog w es a s.heap.objs.size h1.objs.size h2) →
      wpAny (model prog w) A.in1 (setEpoch a >>= fun e => newFields "set_iterator" [fv, rawInt 0, .ref a, rawInt es.size, rawInt e] >>= fun v => ret v)
        (fun fin s' => ∃ v, fin = Fin.done (Flow.ret v) ∧ ∃ T' r, s'.TypeIs v T' ∧ typeLookup (.type T') "__next__" = pure (some r) ∧ Q v s') E { s with heap := h1, drawn := d } := by
    intro fv h1 d hk hle hw
    refine wpAny_bind (wpAny_setEpoch_of (hk _ _ hoa) hda hfa (wpAny_bind (wpAny_newObj_type ?_ (by show 5 ≤ _; rw [sizeLine_eq]; omega))))
    refine wpAny_pure ⟨_, rfl, "set_iterator", _, ⟨_, Heap.get?_push_size _ rfl, rfl⟩, SI.nextS.lookup, ?_⟩
    exact q _ _ d hle (fun b o z => Heap.get?_push_of_some _ (hk b o z)) (hw _ ⟨_, Heap.get?_push_size _ rfl, rfl, rfl⟩ (fun b o z => Heap.get?_push_of_some _ z) (Heap.size_push _ _))
  cases hb : w.params.followText "set-order" with
  | true =>
    rw [if_neg (by simp)]
    refine wpAny_bind (wpAny_pure ?_)
    refine mk (rawInt 0) s.heap s.drawn (fun _ _ z => z) (Nat.le_refl _) fun h2 hit hk hsz => ?_
    refine ⟨_, [s.heap.objs.size, a], _, (pick_perm (w.params.setOrder a ep) es).map (·.2), fun A' hh => walkT hh s.heap.objs.size a (Nat.ne_of_lt hlt) es ep t hb, ⟨hit, hs.at fun o z => hk a o z⟩, fun b z => ?_⟩
    have hsz' : h2.objs.size = s.heap.objs.size + 1 := hsz
    have hlt' : a < h2.objs.size := by rw [hsz']; exact Nat.lt_succ_of_lt hlt
    rcases List.mem_cons.mp z with rfl | z
    · exact ⟨by rw [hsz']; exact Nat.lt_succ_self _, .inr (Nat.le_refl _)⟩
    · rw [List.mem_singleton.mp z]; exact ⟨hlt', .inl rfl⟩
  | false =>
    by_cases hd : (!t.plain && decide (es.size > 1)) = true
    · rw [if_pos (by rw [hd]; rfl)]
      refine wpAny_bind (draw_all _ _ (List.length_range (n := es.size)).symm fun pl d hpl => ?_)
      have hpl' : ∀ p ∈ pl, p < es.size := fun p z => by simpa using hpl.mem_iff.mp z
      have hln : pl.length = es.size := by rw [hpl.length_eq, List.length_range]
      refine wpAny_bind (wpAny_newTuple ?_ (by rw [List.length_map, hln]; exact hz'))
      refine mk (.ref s.heap.objs.size) (s.heap.push (seqObj "tuple" (pl.map fun (k : Nat) => rawInt k).toArray 0)) d (fun b o z => Heap.get?_push_of_some _ z) (by rw [Heap.size_push]; omega) fun h2 hit hk hsz => ?_
      rw [Heap.size_push] at hit hsz ⊢
      have w1 := fun (A' : Around) (hh : A'.handled = none) => walkD (prog := prog) (w := w) hh (s.heap.objs.size + 1) a s.heap.objs.size (Nat.ne_of_lt (Nat.lt_succ_of_lt hlt)) (Nat.ne_of_lt (Nat.lt_succ_self _)) es ep t pl hpl'
      have hlt2 : a < h2.objs.size := by rw [hsz]; exact Nat.lt_succ_of_lt (Nat.lt_succ_of_lt hlt)
      have hlt3 : s.heap.objs.size < h2.objs.size := by rw [hsz]; exact Nat.lt_succ_of_lt (Nat.lt_succ_self _)
      have hlt4 : s.heap.objs.size + 1 < h2.objs.size := by rw [hsz]; exact Nat.lt_succ_self _
      rw [hln] at w1
      refine ⟨_, [s.heap.objs.size + 1, a, s.heap.objs.size], _, ?_, w1, ⟨hit, hs.at fun o z => hk a o (Heap.get?_push_of_some _ z), 0, hk _ _ (Heap.get?_push_size _ rfl)⟩, fun b z => ?_⟩
      · rw [← range_vals]
        exact hpl.filterMap _
      · rcases List.mem_cons.mp z with rfl | z
        · exact ⟨hlt4, .inr (Nat.le_succ _)⟩
        · rcases List.mem_cons.mp z with rfl | z
          · exact ⟨hlt2, .inl rfl⟩
          · rw [List.mem_singleton.mp z]; exact ⟨hlt3, .inr (Nat.le_refl _)⟩
    · rw [if_neg (by rw [Bool.not_eq_true] at hd; rw [hd]; simp)]
      refine wpAny_bind (wpAny_pure ?_)
      have h1 : es.size ≤ 1 := by
        rcases hl.2 with z | z
        · omega
        · rw [z] at hd; simp at hd; omega
      have hled : t.led = true := hl.1.resolve_right (by rw [hb]; simp)
      refine mk (rawInt 0) s.heap s.drawn (fun _ _ z => z) (Nat.le_refl _) fun h2 hit hk hsz => ?_
      refine ⟨_, [s.heap.objs.size, a], _, List.Perm.refl _, fun A' hh => walkO hh s.heap.objs.size a (Nat.ne_of_lt hlt) es ep t hb hled h1, ⟨⟨0, hit, .inl ⟨rfl, rfl⟩⟩, hs.at fun o z => hk a o z⟩, fun b z => ?_⟩
      have hsz' : h2.objs.size = s.heap.objs.size + 1 := hsz
      have hlt' : a < h2.objs.size := by rw [hsz']; exact Nat.lt_succ_of_lt hlt
      rcases List.mem_cons.mp z with rfl | z
      · exact ⟨by rw [hsz']; exact Nat.lt_succ_self _, .inr (Nat.le_refl _)⟩
      · rw [List.mem_singleton.mp z]; exact ⟨hlt', .inl rfl⟩
end
end RB

set_option maxRecDepth 100000
namespace TS
open PySem PyProof.Rows
/-! ### sorted of any length: galloping -/
noncomputable def gallopP : Bool → Keyed → Array Keyed → Nat → Nat → Nat → StateT SortSt Sem (Option Nat) := sortPriv% PySem.Builtin.gallop
noncomputable def pastP (le : Bool) (ky : Keyed) (ar : Array Keyed) (bs i : Nat) : StateT SortSt Sem (Option Bool) := do
  let z ← elem' ar (bs + i)
  if le then lt' z ky else return (← lt' ky z).map (!·)
theorem gallopP_eq (le : Bool) (ky : Keyed) (ar : Array Keyed) (bs n ht : Nat) : gallopP le ky ar bs n ht = (do
    let mut was := 0
    let mut off := 1
    let mut lo := 0
    let mut hi := 0
    let some rt ← pastP le ky ar bs ht | return none
    if rt then
      let top := n - ht
      for _ in [0:n] do
        if off ≥ top then break
        let some mr ← pastP le ky ar bs (ht + off) | return none
        if !mr then break
        was := off
        off := 2 * off + 1
      lo := ht + was + 1
      hi := ht + min off top
    else
      let top := ht + 1
      for _ in [0:n] do
        if off ≥ top then break
        let some fd ← pastP le ky ar bs (ht - off) | return none
        if fd then break
        was := off
        off := 2 * off + 1
      lo := ht + 1 - min off top
      hi := ht - was
    for _ in [0:n] do
      if lo ≥ hi then break
      let md := lo + (hi - lo) / 2
      let some mr ← pastP le ky ar bs md | return none
      if mr then lo := md + 1 else hi := md
    return some hi) := rfl
section
variable {prog : Program} {w : World} {A : Around} {E : Value → Shared → Prop} {s : Shared}
noncomputable def tailP (le : Bool) (ky : Keyed) (ar : Array Keyed) (bs n u v : Nat) : StateT SortSt Sem (Option Nat) := do
  let mut lo := u
  let mut hi := v
  for _ in [0:n] do
    if lo ≥ hi then break
    let md := lo + (hi - lo) / 2
    let some mr ← pastP le ky ar bs md | return none
    if mr then lo := md + 1 else hi := md
  return some hi
theorem wpS_tail {st : SortSt} {le : Bool} {ky : Keyed} {ar : Array Keyed} {bs n m u v : Nat} {Q : Option Nat → SortSt → Prop}
    (hp : ∀ (i : Nat) (R : Option Bool → SortSt → Prop), i < n → R (some (decide (i < m))) st → wpS (model prog w) A E s (pastP le ky ar bs i) R st)
    (h1 : u ≤ m) (h2 : m ≤ v) (h3 : v ≤ n) (q : Q (some m) st) : wpS (model prog w) A E s (tailP le ky ar bs n u v) Q st := by
  unfold tailP
  dsimp only
  refine wpS_bind (wpS_mono (wpS_forRange (I := fun x c st' => st' = st ∧ ∃ lo hi, c = (none, lo, hi) ∧ lo ≤ m ∧ m ≤ hi ∧ hi ≤ n ∧ hi - lo ≤ n - x)
    (Q := fun c st' => st' = st ∧ ∃ lo, c = (none, lo, m)) ?step ?fin ?init) ?post)
  case init => exact ⟨rfl, u, v, rfl, h1, h2, h3, by omega⟩
  case fin =>
    rintro c st' ⟨rfl, lo, hi, rfl, a1, a2, a3, a4⟩
    have : hi = m := by omega
    exact ⟨rfl, lo, by rw [this]⟩
  case step =>
    rintro x c st' _ hx ⟨rfl, lo, hi, rfl, a1, a2, a3, a4⟩
    dsimp only
    by_cases hge : lo ≥ hi
    · rw [if_pos hge]
      have : hi = m := by omega
      exact wpS_pure ⟨rfl, lo, by rw [this]⟩
    · rw [if_neg hge]
      refine wpS_bind (hp (lo + (hi - lo) / 2) _ (by omega) ?_)
      dsimp only
      by_cases hb : lo + (hi - lo) / 2 < m
      · rw [if_pos (decide_eq_true hb)]
        exact wpS_pure ⟨rfl, _, hi, rfl, by omega, a2, a3, by omega⟩
      · rw [if_neg (by simpa using hb)]
        exact wpS_pure ⟨rfl, lo, _, rfl, a1, by omega, by omega, by omega⟩
  case post =>
    rintro c st' ⟨rfl, lo, rfl⟩
    exact wpS_pure q
theorem wpS_gallop {st : SortSt} {le : Bool} {ky : Keyed} {ar : Array Keyed} {bs n ht m : Nat} {Q : Option Nat → SortSt → Prop} (hh : ht < n) (hm : m ≤ n)
    (hp : ∀ (i : Nat) (R : Option Bool → SortSt → Prop), i < n → R (some (decide (i < m))) st → wpS (model prog w) A E s (pastP le ky ar bs i) R st)
    (q : Q (some m) st) : wpS (model prog w) A E s (gallopP le ky ar bs n ht) Q st := by
  rw [gallopP_eq]
  refine wpS_bind (hp ht _ hh ?_)
  dsimp only
  by_cases hb : ht < m
  · rw [if_pos (decide_eq_true hb)]
    refine wpS_bind (wpS_mono (wpS_forRange (I := fun x c st' => st' = st ∧ ∃ was off, c = (none, was, off) ∧ ht + was < m ∧ was < off ∧ x + 1 ≤ off)
      (Q := fun c st' => st' = st ∧ ∃ was off, c = (none, was, off) ∧ ht + was < m ∧ m ≤ ht + min off (n - ht)) ?step ?fin ?init) ?post)
    case init => exact ⟨rfl, 0, 1, rfl, by omega, by omega, by omega⟩
    case fin =>
      rintro c st' ⟨rfl, was, off, rfl, a1, a2, a3⟩
      exact ⟨rfl, was, off, rfl, a1, by omega⟩
    case step =>
      rintro x c st' _ hx ⟨rfl, was, off, rfl, a1, a2, a3⟩
      dsimp only
      by_cases hge : off ≥ n - ht
      · rw [if_pos hge]
        exact wpS_pure ⟨rfl, was, off, rfl, a1, by omega⟩
      · rw [if_neg hge]
        refine wpS_bind (hp (ht + off) _ (by omega) ?_)
        dsimp only
        by_cases hc : ht + off < m
        · rw [if_neg (by simp [hc])]
          exact wpS_pure ⟨rfl, off, 2 * off + 1, rfl, hc, by omega, by omega⟩
        · rw [if_pos (by simp [hc])]
          exact wpS_pure ⟨rfl, was, off, rfl, a1, by omega⟩
    case post =>
      rintro c st' ⟨rfl, was, off, rfl, a1, a2⟩
      exact wpS_tail (u := ht + was + 1) (v := ht + min off (n - ht)) hp (by omega) a2 (by omega) q
  · rw [if_neg (by simpa using hb)]
    refine wpS_bind (wpS_mono (wpS_forRange (I := fun x c st' => st' = st ∧ ∃ was off, c = (none, was, off) ∧ m ≤ ht - was ∧ was < off ∧ x + 1 ≤ off)
      (Q := fun c st' => st' = st ∧ ∃ was off, c = (none, was, off) ∧ m ≤ ht - was ∧ ht + 1 - min off (ht + 1) ≤ m) ?step ?fin ?init) ?post)
    case init => exact ⟨rfl, 0, 1, rfl, by omega, by omega, by omega⟩
    case fin =>
      rintro c st' ⟨rfl, was, off, rfl, a1, a2, a3⟩
      exact ⟨rfl, was, off, rfl, a1, by omega⟩
    case step =>
      rintro x c st' _ hx ⟨rfl, was, off, rfl, a1, a2, a3⟩
      dsimp only
      by_cases hge : off ≥ ht + 1
      · rw [if_pos hge]
        exact wpS_pure ⟨rfl, was, off, rfl, a1, by omega⟩
      · rw [if_neg hge]
        refine wpS_bind (hp (ht - off) _ (by omega) ?_)
        dsimp only
        by_cases hc : ht - off < m
        · rw [if_pos (decide_eq_true hc)]
          exact wpS_pure ⟨rfl, was, off, rfl, a1, by omega⟩
        · rw [if_neg (by simpa using hc)]
          exact wpS_pure ⟨rfl, off, 2 * off + 1, rfl, by omega, by omega, by omega⟩
    case post =>
      rintro c st' ⟨rfl, was, off, rfl, a1, a2⟩
      exact wpS_tail (u := ht + 1 - min off (ht + 1)) (v := ht - was) hp a2 a1 (by omega) q
end
end TS

set_option maxRecDepth 100000
namespace TS
open PySem PyProof.Rows
/-! ### merging two runs, the lower first -/
noncomputable def loP : Array Keyed → Array Keyed → StateT SortSt Sem (Array Keyed) := sortPriv% PySem.Builtin.mergeLo
noncomputable def setMG : Nat → StateT SortSt Sem Unit := sortPriv% PySem.Builtin.setMinGallop
theorem setMG_eq (g : Nat) : setMG g = modify fun t => SortSt.mk' (kindOf t) (arrOf t) (pendingOf t) g (failedOf t) := rfl
noncomputable def fnA (a b r : Array Keyed) (i j : Nat) : Array Keyed := r ++ a.extract i a.size ++ b.extract j b.size
noncomputable def fnB (a b r : Array Keyed) (i j : Nat) : Array Keyed := r ++ b.extract j b.size ++ a.extract i a.size
theorem loP_eq (a b : Array Keyed) : loP a b = (do
    rule "list.sort.merge-lo"
    let all := a.size + b.size
    let mut r : Array Keyed := #[← elem' b 0]
    let mut i := 0
    let mut j := 1
    if j == b.size then return fnA a b r i j
    if i + 1 == a.size then return fnB a b r i j
    let mut mg := gallopOf (← get)
    for _ in [0:all] do
      let mut ca := 0
      let mut cb := 0
      for _ in [0:all] do
        let some bw ← lt' (← elem' b j) (← elem' a i) | return fnA a b r i j
        if bw then
          r := r.push (← elem' b j); j := j + 1; cb := cb + 1; ca := 0
          if j == b.size then return fnA a b r i j
          if cb ≥ mg then break
        else
          r := r.push (← elem' a i); i := i + 1; ca := ca + 1; cb := 0
          if i + 1 == a.size then return fnB a b r i j
          if ca ≥ mg then break
      rule "list.sort.gallop"
      mg := mg + 1
      for _ in [0:all] do
        if mg > 1 then mg := mg - 1
        setMG mg
        let some k ← gallopP false (← elem' b j) a i (a.size - i) 0 | return fnA a b r i j
        ca := k
        if k > 0 then
          r := r ++ a.extract i (i + k); i := i + k
          if i + 1 == a.size then return fnB a b r i j
          if i == a.size then return fnA a b r i j
        r := r.push (← elem' b j); j := j + 1
        if j == b.size then return fnA a b r i j
        let some k ← gallopP true (← elem' a i) b j (b.size - j) 0 | return fnA a b r i j
        cb := k
        if k > 0 then
          r := r ++ b.extract j (j + k); j := j + k
          if j == b.size then return fnA a b r i j
        r := r.push (← elem' a i); i := i + 1
        if i + 1 == a.size then return fnB a b r i j
        if ca < 7 && cb < 7 then break
      mg := mg + 1
      setMG mg
    unsupported "internal:list.sort.merge-bound") := rfl
end TS

set_option maxRecDepth 100000
namespace TS
open PySem PyProof.Rows
section
variable {κ : PyProof.Rows.KeyKind}
noncomputable def kyP (κ : PyProof.Rows.KeyKind) (p : Keyed) : κ.α := (κ.keyOf p.1).getD κ.dflt
noncomputable def leP (κ : PyProof.Rows.KeyKind) (x y : Keyed) : Prop := κ.kle (kyP κ x) (kyP κ y)
theorem leP_trans {x y z : Keyed} (h1 : leP κ x y) (h2 : leP κ y z) : leP κ x z := KeyOrd.kle_trans h1 h2
theorem pw_drop {a : List Keyed} (ha : a.Pairwise (leP κ)) {i : Nat} {x : Keyed} (hx : a[i]? = some x) : ∀ y ∈ a.drop (i + 1), leP κ x y := by
  have h := ha.drop (i := i)
  have hi := (List.getElem?_eq_some_iff.mp hx).1
  have e : a[i] = x := (List.getElem?_eq_some_iff.mp hx).2
  rw [List.drop_eq_getElem_cons hi, List.pairwise_cons] at h
  rw [← e]; exact h.1
theorem pw_from {a : List Keyed} (ha : a.Pairwise (leP κ)) {i : Nat} {x : Keyed} (hx : a[i]? = some x) : ∀ y ∈ a.drop i, leP κ x y := fun y hy => by
  have hi := (List.getElem?_eq_some_iff.mp hx).1
  have e : a[i] = x := (List.getElem?_eq_some_iff.mp hx).2
  rw [List.drop_eq_getElem_cons hi] at hy
  rcases List.mem_cons.mp hy with z | z
  · rw [z, e]; exact KeyOrd.kle_refl _
  · exact pw_drop ha hx y z
/-- what has been put out so far of two rows -/
structure MI (κ : PyProof.Rows.KeyKind) (a b r : List Keyed) (i j : Nat) : Prop where
  perm : r.Perm (a.take i ++ b.take j)
  srt : r.Pairwise (leP κ)
  ba : ∀ x ∈ r, ∀ y ∈ a.drop i, leP κ x y
  bb : ∀ x ∈ r, ∀ y ∈ b.drop j, leP κ x y
theorem mem_drop_of {a : List Keyed} {i : Nat} {x : Keyed} (hx : a[i]? = some x) : x ∈ a.drop i := by
  have hi := (List.getElem?_eq_some_iff.mp hx).1
  have e : a[i] = x := (List.getElem?_eq_some_iff.mp hx).2
  rw [List.drop_eq_getElem_cons hi, e]; exact List.mem_cons_self
theorem drop_sub {a : List Keyed} {i : Nat} {y : Keyed} (h : y ∈ a.drop (i + 1)) : y ∈ a.drop i := by
  rw [← List.drop_drop (i := 1) (j := i)] at h
  exact List.mem_of_mem_drop h
theorem MI.pushA {a b r : List Keyed} {i j : Nat} {x : Keyed} (h : MI κ a b r i j) (ha : a.Pairwise (leP κ)) (hx : a[i]? = some x) (hle : ∀ y ∈ b.drop j, leP κ x y) : MI κ a b (r ++ [x]) (i + 1) j := by
  refine ⟨?_, ?_, fun z hz y hy => ?_, fun z hz y hy => ?_⟩
  · rw [List.take_succ, hx]
    refine (h.perm.append_right [x]).trans ?_
    rw [List.append_assoc, List.append_assoc]
    exact List.Perm.append_left _ List.perm_append_comm
  · rw [List.pairwise_append]
    exact ⟨h.srt, List.pairwise_singleton _ _, fun z hz y hy => by
      rw [show y = x by simpa using hy]
      exact h.ba z hz x (mem_drop_of hx)⟩
  · rcases List.mem_append.mp hz with w | w
    · exact h.ba z w y (drop_sub hy)
    · rw [show z = x by simpa using w]; exact pw_drop ha hx y hy
  · rcases List.mem_append.mp hz with w | w
    · exact h.bb z w y hy
    · rw [show z = x by simpa using w]; exact hle y hy
theorem MI.pushB {a b r : List Keyed} {i j : Nat} {x : Keyed} (h : MI κ a b r i j) (hb : b.Pairwise (leP κ)) (hx : b[j]? = some x) (hle : ∀ y ∈ a.drop i, leP κ x y) : MI κ a b (r ++ [x]) i (j + 1) := by
  refine ⟨?_, ?_, fun z hz y hy => ?_, fun z hz y hy => ?_⟩
  · rw [List.take_succ (i := j), hx, ← List.append_assoc]
    exact h.perm.append_right [x]
  · rw [List.pairwise_append]
    exact ⟨h.srt, List.pairwise_singleton _ _, fun z hz y hy => by
      rw [show y = x by simpa using hy]
      exact h.bb z hz x (mem_drop_of hx)⟩
  · rcases List.mem_append.mp hz with w | w
    · exact h.ba z w y hy
    · rw [show z = x by simpa using w]; exact hle y hy
  · rcases List.mem_append.mp hz with w | w
    · exact h.bb z w y (drop_sub hy)
    · rw [show z = x by simpa using w]; exact pw_drop hb hx y hy
theorem MI.manyA {a b : List Keyed} {j : Nat} (ha : a.Pairwise (leP κ)) : ∀ (k : Nat) {r : List Keyed} {i : Nat}, MI κ a b r i j → i + k ≤ a.length → (∀ t x, t < k → a[i + t]? = some x → ∀ y ∈ b.drop j, leP κ x y) → MI κ a b (r ++ (a.drop i).take k) (i + k) j
  | 0, r, i, h, _, _ => by simpa using h
  | k + 1, r, i, h, hl, hk => by
    have hx : a[i]? = some (a[i]'(by omega)) := List.getElem?_eq_getElem _
    have h1 := h.pushA ha hx (hk 0 _ (by omega) hx)
    have h2 := MI.manyA ha k h1 (by omega) fun t x ht e => hk (t + 1) x (by omega) (by rw [show i + (t + 1) = i + 1 + t by omega]; exact e)
    rw [List.drop_eq_getElem_cons (show i < a.length by omega), List.take_succ_cons, show i + (k + 1) = i + 1 + k by omega]
    rw [List.append_assoc] at h2
    exact h2
theorem MI.manyB {a b : List Keyed} {i : Nat} (hb : b.Pairwise (leP κ)) : ∀ (k : Nat) {r : List Keyed} {j : Nat}, MI κ a b r i j → j + k ≤ b.length → (∀ t x, t < k → b[j + t]? = some x → ∀ y ∈ a.drop i, leP κ x y) → MI κ a b (r ++ (b.drop j).take k) i (j + k)
  | 0, r, j, h, _, _ => by simpa using h
  | k + 1, r, j, h, hl, hk => by
    have hx : b[j]? = some (b[j]'(by omega)) := List.getElem?_eq_getElem _
    have h1 := h.pushB hb hx (hk 0 _ (by omega) hx)
    have h2 := MI.manyB hb k h1 (by omega) fun t x ht e => hk (t + 1) x (by omega) (by rw [show j + (t + 1) = j + 1 + t by omega]; exact e)
    rw [List.drop_eq_getElem_cons (show j < b.length by omega), List.take_succ_cons, show j + (k + 1) = j + 1 + k by omega]
    rw [List.append_assoc] at h2
    exact h2
noncomputable def MOut (κ : PyProof.Rows.KeyKind) (a b r : List Keyed) : Prop := r.Perm (a ++ b) ∧ r.Pairwise (leP κ)
theorem MI.out {a b r : List Keyed} (h : MI κ a b r a.length b.length) : MOut κ a b r := by
  refine ⟨?_, h.srt⟩
  have := h.perm
  rwa [List.take_length, List.take_length] at this
/-- one row is at its end -/
theorem MI.finA {a b r : List Keyed} {i j : Nat} (h : MI κ a b r i j) (ha : a.Pairwise (leP κ)) (hb : b.Pairwise (leP κ)) (hi : i ≤ a.length) (hj : j ≤ b.length) (he : i = a.length ∨ j = b.length) : MOut κ a b (r ++ a.drop i ++ b.drop j) := by
  rcases he with e | e
  · subst e
    have h2 := h.manyB hb (b.length - j) (by omega) fun t x _ _ y hy => by simp at hy
    rw [List.take_of_length_le (by simp), show j + (b.length - j) = b.length by omega] at h2
    simpa using h2.out
  · subst e
    have h2 := h.manyA ha (a.length - i) (by omega) fun t x _ _ y hy => by simp at hy
    rw [List.take_of_length_le (by simp), show i + (a.length - i) = a.length by omega] at h2
    simpa using h2.out
/-- the rest of b goes before the rest of a -/
theorem MI.finB {a b r : List Keyed} {i j : Nat} (h : MI κ a b r i j) (ha : a.Pairwise (leP κ)) (hb : b.Pairwise (leP κ)) (hi : i ≤ a.length) (hj : j ≤ b.length) (hl : ∀ x ∈ b.drop j, ∀ y ∈ a.drop i, leP κ x y) : MOut κ a b (r ++ b.drop j ++ a.drop i) := by
  have h2 := h.manyB hb (b.length - j) (by omega) fun t x _ e y hy => hl x (by
    have := List.mem_of_getElem? (l := b.drop j) (i := t) (a := x) (by rw [List.getElem?_drop]; exact e)
    exact this) y hy
  rw [List.take_of_length_le (by simp), show j + (b.length - j) = b.length by omega] at h2
  have h3 := h2.finA ha hb hi (Nat.le_refl _) (.inr rfl)
  simpa using h3
end
end TS

set_option maxRecDepth 100000
namespace TS
open PySem PyProof.Rows
theorem mono_cut (f : Nat → Bool) : ∀ n, (∀ s t, s ≤ t → t < n → f t = true → f s = true) → ∃ m, m ≤ n ∧ ∀ t, t < n → f t = decide (t < m)
  | 0, _ => ⟨0, Nat.le_refl _, fun t ht => absurd ht (Nat.not_lt_zero _)⟩
  | n + 1, h => by
    obtain ⟨m, hm, e⟩ := mono_cut f n fun s t hst ht => h s t hst (by omega)
    cases hf : f n with
    | true =>
      refine ⟨n + 1, Nat.le_refl _, fun t ht => ?_⟩
      rw [h t n (by omega) (by omega) hf, decide_eq_true ht]
    | false =>
      refine ⟨m, by omega, fun t ht => ?_⟩
      by_cases z : t = n
      · rw [z, hf, decide_eq_false (by omega)]
      · exact e t (by omega)
/-- but for the gallop's line the same -/
noncomputable def GSt (st st' : SortSt) : Prop := ∃ g, st' = SortSt.mk' (kindOf st) (arrOf st) (pendingOf st) g (failedOf st)
theorem GSt.refl (st : SortSt) : GSt st st := ⟨gallopOf st, rfl⟩
theorem GSt.trans {a b c : SortSt} (h1 : GSt a b) (h2 : GSt b c) : GSt a c := by
  obtain ⟨g, rfl⟩ := h1
  obtain ⟨g', rfl⟩ := h2
  exact ⟨g', rfl⟩
theorem GSt.kind {a b : SortSt} (h : GSt a b) (hk : kindOf a = oneType') : kindOf b = oneType' := by
  obtain ⟨g, rfl⟩ := h; exact hk
section
variable {prog : Program} {w : World} {A : Around} {E : Value → Shared → Prop} {s : Shared} {κ : PyProof.Rows.KeyKind}
theorem wpS_setMG {st : SortSt} {g : Nat} {Q : Unit → SortSt → Prop} (h : ∀ st', GSt st st' → Q () st') : wpS (model prog w) A E s (setMG g) Q st := by
  rw [setMG_eq]
  exact wpS_modify (h _ ⟨g, rfl⟩)
noncomputable def HasK (κ : PyProof.Rows.KeyKind) (p : Keyed) : Prop := ∃ c, κ.keyOf p.1 = some c
theorem HasK.eq {p : Keyed} (h : HasK κ p) : κ.keyOf p.1 = some (kyP κ p) := by
  obtain ⟨c, e⟩ := h
  unfold kyP; rw [e]; rfl
theorem wpS_lt {st : SortSt} {x y : Keyed} {Q : Option Bool → SortSt → Prop} (hO : κ.OneLt) (hk : kindOf st = oneType') (hx : HasK κ x) (hy : HasK κ y) (h : Q (some (κ.blt (kyP κ x) (kyP κ y))) st) :
    wpS (model prog w) A E s (lt' x y) Q st := by
  rw [lt'_eq]
  refine wpS_bind (wpS_get ?_)
  rw [hk, keyLt'_oneType]
  refine wpS_bind (wpS_lift (wpAny_attempt (hO prog w A _ s x.1 y.1 _ _ hx.eq hy.eq ⟨rfl, ?_⟩)))
  exact wpS_pure h
theorem wpS_elem {st : SortSt} {ar : Array Keyed} {i : Nat} {x : Keyed} {Q : Keyed → SortSt → Prop} (h : ar[i]? = some x) (q : Q x st) : wpS (model prog w) A E s (elem' ar i) Q st := by
  rw [elem'_eq, h]
  exact wpS_pure q
/-- how many of a row's next are not beyond a key -/
theorem gallop_right {st : SortSt} {ky : Keyed} {ar : Array Keyed} {bs n ht : Nat} {Q : Option Nat → SortSt → Prop} (hO : κ.OneLt) (hk : kindOf st = oneType') (hh : ht < n) (hn : bs + n ≤ ar.size) (hky : HasK κ ky) (hks : ∀ p ∈ ar.toList, HasK κ p)
    (hs : ∀ t u x y, t ≤ u → u < n → ar[bs + t]? = some x → ar[bs + u]? = some y → leP κ x y)
    (q : ∀ m, m ≤ n → (∀ t x, t < m → ar[bs + t]? = some x → leP κ x ky) → (∀ t x, m ≤ t → t < n → ar[bs + t]? = some x → κ.blt (kyP κ ky) (kyP κ x) = true) → Q (some m) st) :
    wpS (model prog w) A E s (gallopP false ky ar bs n ht) Q st := by
  let f : Nat → Bool := fun t => match ar[bs + t]? with
    | some x => !(κ.blt (kyP κ ky) (kyP κ x))
    | none => false
  have hat : ∀ t, t < n → ∃ x, ar[bs + t]? = some x := fun t ht => ⟨_, getElem?_pos ar (bs + t) (by omega)⟩
  have hf : ∀ t x, ar[bs + t]? = some x → f t = !(κ.blt (kyP κ ky) (kyP κ x)) := fun t x e => by show (match ar[bs + t]? with | some x => _ | none => _) = _; rw [e]
  obtain ⟨m, hm, e⟩ := mono_cut f n fun t u htu hu h => by
    obtain ⟨x, ex⟩ := hat t (by omega)
    obtain ⟨y, ey⟩ := hat u hu
    rw [hf t x ex]
    rw [hf u y ey] at h
    have h1 : κ.blt (kyP κ ky) (kyP κ y) = false := by simpa using h
    have h2 : κ.kle (kyP κ x) (kyP κ ky) := KeyOrd.kle_trans (hs t u x y htu hu ex ey) h1
    have h3 : κ.blt (kyP κ ky) (kyP κ x) = false := h2
    rw [h3]; rfl
  refine wpS_gallop (m := m) hh hm (fun t R ht r => ?_) (q m hm (fun t x ht ex => ?_) fun t x h1 h2 ex => ?_)
  · obtain ⟨x, ex⟩ := hat t ht
    unfold pastP
    refine wpS_bind (wpS_elem ex ?_)
    rw [if_neg (by decide)]
    refine wpS_bind (wpS_lt hO hk hky (hks x (by
      have := Array.mem_of_getElem? ex
      simpa using this)) (wpS_pure ?_))
    rw [← e t ht, hf t x ex] at r
    exact r
  · have := e t (by omega)
    rw [hf t x ex, decide_eq_true ht] at this
    show κ.blt _ _ = false
    simpa using this
  · have := e t h2
    rw [hf t x ex, decide_eq_false (by omega)] at this
    simpa using this
/-- how many of a row's next are before a key -/
theorem gallop_left {st : SortSt} {ky : Keyed} {ar : Array Keyed} {bs n ht : Nat} {Q : Option Nat → SortSt → Prop} (hO : κ.OneLt) (hk : kindOf st = oneType') (hh : ht < n) (hn : bs + n ≤ ar.size) (hky : HasK κ ky) (hks : ∀ p ∈ ar.toList, HasK κ p)
    (hs : ∀ t u x y, t ≤ u → u < n → ar[bs + t]? = some x → ar[bs + u]? = some y → leP κ x y)
    (q : ∀ m, m ≤ n → (∀ t x, t < m → ar[bs + t]? = some x → κ.blt (kyP κ x) (kyP κ ky) = true) → (∀ t x, m ≤ t → t < n → ar[bs + t]? = some x → leP κ ky x) → Q (some m) st) :
    wpS (model prog w) A E s (gallopP true ky ar bs n ht) Q st := by
  let f : Nat → Bool := fun t => match ar[bs + t]? with
    | some x => κ.blt (kyP κ x) (kyP κ ky)
    | none => false
  have hat : ∀ t, t < n → ∃ x, ar[bs + t]? = some x := fun t ht => ⟨_, getElem?_pos ar (bs + t) (by omega)⟩
  have hf : ∀ t x, ar[bs + t]? = some x → f t = κ.blt (kyP κ x) (kyP κ ky) := fun t x e => by show (match ar[bs + t]? with | some x => _ | none => _) = _; rw [e]
  obtain ⟨m, hm, e⟩ := mono_cut f n fun t u htu hu h => by
    obtain ⟨x, ex⟩ := hat t (by omega)
    obtain ⟨y, ey⟩ := hat u hu
    rw [hf t x ex]
    rw [hf u y ey] at h
    exact KeyOrd.klt_of_kle_of_klt (hs t u x y htu hu ex ey) h
  refine wpS_gallop (m := m) hh hm (fun t R ht r => ?_) (q m hm (fun t x ht ex => ?_) fun t x h1 h2 ex => ?_)
  · obtain ⟨x, ex⟩ := hat t ht
    unfold pastP
    refine wpS_bind (wpS_elem ex ?_)
    rw [if_pos rfl]
    refine wpS_lt hO hk (hks x (by
      have := Array.mem_of_getElem? ex
      simpa using this)) hky ?_
    rw [← e t ht, hf t x ex] at r
    exact r
  · have := e t (by omega)
    rw [hf t x ex, decide_eq_true ht] at this
    exact this
  · have := e t h2
    rw [hf t x ex, decide_eq_false (by omega)] at this
    exact this
end
end TS

set_option maxRecDepth 100000
namespace TS
open PySem PyProof.Rows
section
variable {prog : Program} {w : World} {A : Around} {E : Value → Shared → Prop} {s : Shared} {κ : PyProof.Rows.KeyKind}
theorem arr_at {a : Array Keyed} {i : Nat} {x : Keyed} (h : a[i]? = some x) : a.toList[i]? = some x := by simpa using h
theorem fnA_list (a b r : Array Keyed) (i j : Nat) : (fnA a b r i j).toList = r.toList ++ a.toList.drop i ++ b.toList.drop j := by
  unfold fnA
  rw [Array.toList_append, Array.toList_append, Array.toList_extract, Array.toList_extract, List.extract_eq_drop_take, List.extract_eq_drop_take, List.take_of_length_le (by simp), List.take_of_length_le (by simp)]
theorem fnB_list (a b r : Array Keyed) (i j : Nat) : (fnB a b r i j).toList = r.toList ++ b.toList.drop j ++ a.toList.drop i := by
  unfold fnB
  rw [Array.toList_append, Array.toList_append, Array.toList_extract, Array.toList_extract, List.extract_eq_drop_take, List.extract_eq_drop_take, List.take_of_length_le (by simp), List.take_of_length_le (by simp)]
noncomputable abbrev MT := Option (Array Keyed) × Array Keyed × Nat × Nat × Nat × Nat × Nat
noncomputable def galE (a b r : Array Keyed) (i j mg ca cb : Nat) : StateT SortSt Sem (ForInStep MT) := do
  let x ← elem' a i
  if i + 1 + 1 == a.size then pure (.done (some (fnB a b (r.push x) (i + 1) j), r.push x, i + 1, j, mg, ca, cb))
  else if ca < 7 && cb < 7 then pure (.done (none, r.push x, i + 1, j, mg, ca, cb)) else pure (.yield (none, r.push x, i + 1, j, mg, ca, cb))
noncomputable def galD (a b r : Array Keyed) (i j mg ca cb : Nat) : StateT SortSt Sem (ForInStep MT) := do
  let x ← elem' a i
  let some k ← gallopP true x b j (b.size - j) 0 | pure (.done (some (fnA a b r i j), r, i, j, mg, ca, cb))
  if k > 0 then
    if j + k == b.size then pure (.done (some (fnA a b (r ++ b.extract j (j + k)) i (j + k)), r ++ b.extract j (j + k), i, j + k, mg, ca, k))
    else galE a b (r ++ b.extract j (j + k)) i (j + k) mg ca k
  else galE a b r i j mg ca k
noncomputable def galC (a b r : Array Keyed) (i j mg ca cb : Nat) : StateT SortSt Sem (ForInStep MT) := do
  let y ← elem' b j
  if j + 1 == b.size then pure (.done (some (fnA a b (r.push y) i (j + 1)), r.push y, i, j + 1, mg, ca, cb))
  else galD a b (r.push y) i (j + 1) mg ca cb
noncomputable def galB (a b r : Array Keyed) (i j mg ca cb : Nat) : StateT SortSt Sem (ForInStep MT) := do
  setMG mg
  let y ← elem' b j
  let some k ← gallopP false y a i (a.size - i) 0 | pure (.done (some (fnA a b r i j), r, i, j, mg, ca, cb))
  if k > 0 then
    if i + k + 1 == a.size then pure (.done (some (fnB a b (r ++ a.extract i (i + k)) (i + k) j), r ++ a.extract i (i + k), i + k, j, mg, k, cb))
    else if i + k == a.size then pure (.done (some (fnA a b (r ++ a.extract i (i + k)) (i + k) j), r ++ a.extract i (i + k), i + k, j, mg, k, cb))
    else galC a b (r ++ a.extract i (i + k)) (i + k) j mg k cb
  else galC a b r i j mg k cb
noncomputable abbrev NT := Option (Array Keyed) × Array Keyed × Nat × Nat × Nat × Nat
noncomputable def oneB (a b r : Array Keyed) (i j mg ca cb : Nat) : StateT SortSt Sem (ForInStep NT) := do
  let y ← elem' b j
  let x ← elem' a i
  let some bw ← lt' y x | pure (.done (some (fnA a b r i j), r, i, j, ca, cb))
  if bw then do
    let y ← elem' b j
    if j + 1 == b.size then pure (.done (some (fnA a b (r.push y) i (j + 1)), r.push y, i, j + 1, 0, cb + 1))
    else if cb + 1 ≥ mg then pure (.done (none, r.push y, i, j + 1, 0, cb + 1)) else pure (.yield (none, r.push y, i, j + 1, 0, cb + 1))
  else do
    let x ← elem' a i
    if i + 1 + 1 == a.size then pure (.done (some (fnB a b (r.push x) (i + 1) j), r.push x, i + 1, j, ca + 1, 0))
    else if ca + 1 ≥ mg then pure (.done (none, r.push x, i + 1, j, ca + 1, 0)) else pure (.yield (none, r.push x, i + 1, j, ca + 1, 0))
theorem loP_eq2 (a b : Array Keyed) : loP a b = (do
    liftM (rule "list.sort.merge-lo")
    let y ← elem' b 0
    if 1 == b.size then pure (fnA a b #[y] 0 1)
    else if 0 + 1 == a.size then pure (fnB a b #[y] 0 1)
    else do
      let t ← get
      let c ← forIn [0:a.size + b.size] ((none, #[y], 0, 1, gallopOf t) : Option (Array Keyed) × Array Keyed × Nat × Nat × Nat) fun _ c => do
        let d ← forIn [0:a.size + b.size] ((none, c.2.1, c.2.2.1, c.2.2.2.1, 0, 0) : NT) fun _ d => oneB a b d.2.1 d.2.2.1 d.2.2.2.1 c.2.2.2.2 d.2.2.2.2.1 d.2.2.2.2.2
        match d.1 with
        | some r => pure (.done (some r, d.2.1, d.2.2.1, d.2.2.2.1, c.2.2.2.2))
        | none => do
          liftM (rule "list.sort.gallop")
          let e ← forIn [0:a.size + b.size] ((none, d.2.1, d.2.2.1, d.2.2.2.1, c.2.2.2.2 + 1, d.2.2.2.2.1, d.2.2.2.2.2) : MT) fun _ e =>
            if e.2.2.2.2.1 > 1 then galB a b e.2.1 e.2.2.1 e.2.2.2.1 (e.2.2.2.2.1 - 1) e.2.2.2.2.2.1 e.2.2.2.2.2.2
            else galB a b e.2.1 e.2.2.1 e.2.2.2.1 e.2.2.2.2.1 e.2.2.2.2.2.1 e.2.2.2.2.2.2
          match e.1 with
          | some r => pure (.done (some r, e.2.1, e.2.2.1, e.2.2.2.1, e.2.2.2.2.1))
          | none => do
            setMG (e.2.2.2.2.1 + 1)
            pure (.yield (none, e.2.1, e.2.2.1, e.2.2.2.1, e.2.2.2.2.1 + 1))
      match c.1 with
      | some r => pure r
      | none => liftM (unsupported "internal:list.sort.merge-bound" : Sem (Array Keyed))) := by
  rw [loP_eq]
  unfold oneB galB galC galD galE
  dsimp only
  congr 1
  funext u
  congr 1
  funext y
  congr 1
  congr 1
  congr 1
  funext t
  congr 1
  · congr 1
    funext z c
    congr 1
    funext d
    obtain ⟨d1, d2⟩ := d
    cases d1 with
    | some r => rfl
    | none =>
      dsimp only
      congr 1
      funext u
      congr 1
      congr 1
      funext z e
      obtain ⟨z1, z2⟩ := z
      cases z1 <;> rfl
  · funext c
    obtain ⟨c1, c2⟩ := c
    cases c1 <;> rfl
end
end TS

set_option maxRecDepth 100000
namespace TS
open PySem PyProof.Rows
/-- two rows to merge, the lower first -/
structure MC (κ : PyProof.Rows.KeyKind) (a b : Array Keyed) : Prop where
  hO : κ.OneLt
  ka : ∀ p ∈ a.toList, HasK κ p
  kb : ∀ p ∈ b.toList, HasK κ p
  ha : a.toList.Pairwise (leP κ)
  hb : b.toList.Pairwise (leP κ)
  hL : ∀ x ∈ b.toList, ∀ y, a[a.size - 1]? = some y → leP κ x y
section
variable {prog : Program} {w : World} {A : Around} {E : Value → Shared → Prop} {s : Shared} {κ : PyProof.Rows.KeyKind} {a b r : Array Keyed} {i j : Nat} {st st' : SortSt}
theorem MC.endA (m : MC κ a b) (h : MI κ a.toList b.toList r.toList i j) (hi : i ≤ a.size) (hj : j ≤ b.size) (he : i = a.size ∨ j = b.size) : MOut κ a.toList b.toList (fnA a b r i j).toList := by
  have hla : a.toList.length = a.size := Array.length_toList
  have hlb : b.toList.length = b.size := Array.length_toList
  rw [fnA_list]; exact h.finA m.ha m.hb (by omega) (by omega) (by rw [hla, hlb]; exact he)
theorem MC.endB (m : MC κ a b) (h : MI κ a.toList b.toList r.toList i j) (hi : i + 1 = a.size) (hj : j ≤ b.size) : MOut κ a.toList b.toList (fnB a b r i j).toList := by
  have hla : a.toList.length = a.size := Array.length_toList
  have hlb : b.toList.length = b.size := Array.length_toList
  rw [fnB_list]
  refine h.finB m.ha m.hb (by omega) (by omega) fun x hx y hy => m.hL x (List.mem_of_mem_drop hx) y ?_
  have ei : a[i]? = some (a[i]'(by omega)) := getElem?_pos a i (by omega)
  rw [List.drop_eq_getElem_cons (show i < a.toList.length by omega), List.drop_of_length_le (by omega)] at hy
  have : y = a[i]'(by omega) := by simpa using hy
  rw [this, ← ei]; congr 1; omega
structure MV (κ : PyProof.Rows.KeyKind) (a b : Array Keyed) (st st' : SortSt) (r : Array Keyed) (i j : Nat) : Prop where
  g : GSt st st'
  m : MI κ a.toList b.toList r.toList i j
  i1 : i + 1 < a.size
  j1 : j < b.size
/-- how a turn of the galloping loop ends -/
noncomputable def D2 (κ : PyProof.Rows.KeyKind) (a b : Array Keyed) (st : SortSt) (n : Nat) (c : MT) (st' : SortSt) : Prop :=
  (∃ r, c.1 = some r ∧ MOut κ a.toList b.toList r.toList ∧ GSt st st') ∨ (c.1 = none ∧ MV κ a b st st' c.2.1 c.2.2.1 c.2.2.2.1 ∧ n ≤ c.2.2.1 + c.2.2.2.1)
noncomputable def P2 (κ : PyProof.Rows.KeyKind) (a b : Array Keyed) (st : SortSt) (n : Nat) (f : ForInStep MT) (st' : SortSt) : Prop := match f with
  | .done c => D2 κ a b st n c st'
  | .yield c => c.1 = none ∧ MV κ a b st st' c.2.1 c.2.2.1 c.2.2.2.1 ∧ n ≤ c.2.2.1 + c.2.2.2.1
theorem push_list (r : Array Keyed) (x : Keyed) : (r.push x).toList = r.toList ++ [x] := Array.toList_push
theorem at_of {a : Array Keyed} {i : Nat} (h : i < a.size) : ∃ x, a[i]? = some x ∧ x ∈ a.toList := ⟨a[i], getElem?_pos a i h, by simp⟩
theorem wpS_galE (m : MC κ a b) {n mg ca cb : Nat} (v : MV κ a b st st' r i j) (hn : n ≤ i + j + 1) (hle : ∀ x, a[i]? = some x → ∀ y ∈ b.toList.drop j, leP κ x y) :
    wpS (model prog w) A E s (galE a b r i j mg ca cb) (P2 κ a b st n) st' := by
  obtain ⟨x, ex, _⟩ := at_of (a := a) (i := i) (by have := v.i1; omega)
  have i1 := v.i1
  have j1 := v.j1
  have h1 : MI κ a.toList b.toList (r.push x).toList (i + 1) j := by
    rw [push_list]; exact v.m.pushA m.ha (arr_at ex) (hle x ex)
  unfold galE
  refine wpS_bind (wpS_elem ex ?_)
  by_cases c : (i + 1 + 1 == a.size) = true
  · rw [if_pos c]
    exact wpS_pure (.inl ⟨_, rfl, m.endB h1 (beq_iff_eq.mp c) (by omega), v.g⟩)
  · rw [if_neg c]
    have c' : i + 1 + 1 ≠ a.size := fun z => c (beq_iff_eq.mpr z)
    have v' : MV κ a b st st' (r.push x) (i + 1) j := ⟨v.g, h1, by omega, j1⟩
    split
    · exact wpS_pure (.inr ⟨rfl, v', by show n ≤ i + 1 + j; omega⟩)
    · exact wpS_pure ⟨rfl, v', by show n ≤ i + 1 + j; omega⟩
theorem ext_list (r b : Array Keyed) (j k : Nat) (h : j + k ≤ b.size) : (r ++ b.extract j (j + k)).toList = r.toList ++ (b.toList.drop j).take k := by
  rw [Array.toList_append, Array.toList_extract, List.extract_eq_drop_take, show j + k - j = k by omega]
theorem srt_at {a : Array Keyed} (ha : a.toList.Pairwise (leP κ)) {bs n : Nat} (hn : bs + n ≤ a.size) : ∀ t u x y, t ≤ u → u < n → a[bs + t]? = some x → a[bs + u]? = some y → leP κ x y := fun t u x y htu hu ex ey => by
  have h1 := pw_from ha (arr_at ex)
  refine h1 y ?_
  have e : (a.toList.drop (bs + t))[u - t]? = some y := by
    rw [List.getElem?_drop, show bs + t + (u - t) = bs + u by omega]; exact arr_at ey
  exact List.mem_of_getElem? e
theorem wpS_galD (m : MC κ a b) (hk : kindOf st = oneType') {n mg ca cb : Nat} (v : MV κ a b st st' r i j) (hn : n ≤ i + j + 1) :
    wpS (model prog w) A E s (galD a b r i j mg ca cb) (P2 κ a b st n) st' := by
  have i1 := v.i1
  have j1 := v.j1
  obtain ⟨x, ex, hx⟩ := at_of (a := a) (i := i) (by omega)
  unfold galD
  refine wpS_bind (wpS_elem ex (wpS_bind (gallop_left m.hO (v.g.kind hk) (by omega) (by omega) (m.ka x hx) m.kb (srt_at m.hb (by omega)) fun k hk1 hlt hge => ?_)))
  dsimp only
  have more : MI κ a.toList b.toList (r ++ b.extract j (j + k)).toList i (j + k) := by
    rw [ext_list _ _ _ _ (by omega)]
    refine v.m.manyB m.hb k (by rw [Array.length_toList]; omega) fun t y ht ey z hz => ?_
    have h1 := hlt t y ht (by simpa using ey)
    exact leP_trans (KeyOrd.kle_of_klt h1) (pw_from m.ha (arr_at ex) z hz)
  have rest : ∀ x', a[i]? = some x' → ∀ y ∈ b.toList.drop (j + k), leP κ x' y := fun x' ex' y hy => by
    rw [ex] at ex'; cases ex'
    obtain ⟨t, ht⟩ := List.getElem?_of_mem hy
    rw [List.getElem?_drop] at ht
    have hb' : j + k + t < b.size := by
      have := (List.getElem?_eq_some_iff.mp ht).1
      rwa [Array.length_toList] at this
    exact hge (k + t) y (by omega) (by omega) (by rw [← Nat.add_assoc]; simpa using ht)
  by_cases c : k > 0
  · rw [if_pos c]
    by_cases c2 : (j + k == b.size) = true
    · rw [if_pos c2]
      exact wpS_pure (.inl ⟨_, rfl, m.endA more (by omega) (by have := beq_iff_eq.mp c2; omega) (.inr (beq_iff_eq.mp c2)), v.g⟩)
    · rw [if_neg c2]
      have c2' : j + k ≠ b.size := fun z => c2 (beq_iff_eq.mpr z)
      exact wpS_galE m ⟨v.g, more, i1, by omega⟩ (by omega) rest
  · rw [if_neg c]
    have k0 : k = 0 := by omega
    subst k0
    exact wpS_galE m v hn rest
end
end TS

set_option maxRecDepth 100000
namespace TS
open PySem PyProof.Rows
section
variable {prog : Program} {w : World} {A : Around} {E : Value → Shared → Prop} {s : Shared} {κ : PyProof.Rows.KeyKind} {a b r : Array Keyed} {i j : Nat} {st st' : SortSt}
theorem wpS_galC (m : MC κ a b) (hk : kindOf st = oneType') {n mg ca cb : Nat} (v : MV κ a b st st' r i j) (hn : n ≤ i + j + 1) (hle : ∀ y, b[j]? = some y → ∀ z ∈ a.toList.drop i, leP κ y z) :
    wpS (model prog w) A E s (galC a b r i j mg ca cb) (P2 κ a b st n) st' := by
  have i1 := v.i1
  have j1 := v.j1
  obtain ⟨y, ey, hy⟩ := at_of (a := b) (i := j) (by omega)
  have h1 : MI κ a.toList b.toList (r.push y).toList i (j + 1) := by
    rw [push_list]; exact v.m.pushB m.hb (arr_at ey) (hle y ey)
  unfold galC
  refine wpS_bind (wpS_elem ey ?_)
  by_cases c : (j + 1 == b.size) = true
  · rw [if_pos c]
    exact wpS_pure (.inl ⟨_, rfl, m.endA h1 (by omega) (by have := beq_iff_eq.mp c; omega) (.inr (beq_iff_eq.mp c)), v.g⟩)
  · rw [if_neg c]
    have c' : j + 1 ≠ b.size := fun z => c (beq_iff_eq.mpr z)
    exact wpS_galD m hk ⟨v.g, h1, i1, by omega⟩ (by omega)
theorem wpS_galB (m : MC κ a b) (hk : kindOf st = oneType') {n mg ca cb : Nat} (v : MV κ a b st st' r i j) (hn : n ≤ i + j + 1) :
    wpS (model prog w) A E s (galB a b r i j mg ca cb) (P2 κ a b st n) st' := by
  have i1 := v.i1
  have j1 := v.j1
  obtain ⟨y, ey, hy⟩ := at_of (a := b) (i := j) (by omega)
  unfold galB
  refine wpS_bind (wpS_setMG fun st2 g2 => ?_)
  have g := v.g.trans g2
  refine wpS_bind (wpS_elem ey (wpS_bind (gallop_right m.hO (g.kind hk) (by omega) (by omega) (m.kb y hy) m.ka (srt_at m.ha (by omega)) fun k hk1 hle hgt => ?_)))
  dsimp only
  have more : MI κ a.toList b.toList (r ++ a.extract i (i + k)).toList (i + k) j := by
    rw [ext_list _ _ _ _ (by omega)]
    refine v.m.manyA m.ha k (by rw [Array.length_toList]; omega) fun t x ht ex z hz => ?_
    exact leP_trans (hle t x ht (by simpa using ex)) (pw_from m.hb (arr_at ey) z hz)
  have rest : ∀ y', b[j]? = some y' → ∀ z ∈ a.toList.drop (i + k), leP κ y' z := fun y' ey' z hz => by
    rw [ey] at ey'; cases ey'
    obtain ⟨t, ht⟩ := List.getElem?_of_mem hz
    rw [List.getElem?_drop] at ht
    have hb' : i + k + t < a.size := by
      have := (List.getElem?_eq_some_iff.mp ht).1
      rwa [Array.length_toList] at this
    exact KeyOrd.kle_of_klt (hgt (k + t) z (by omega) (by omega) (by rw [← Nat.add_assoc]; simpa using ht))
  by_cases c : k > 0
  · rw [if_pos c]
    by_cases c2 : (i + k + 1 == a.size) = true
    · rw [if_pos c2]
      exact wpS_pure (.inl ⟨_, rfl, m.endB more (beq_iff_eq.mp c2) (by omega), g⟩)
    · rw [if_neg c2]
      have c2' : i + k + 1 ≠ a.size := fun z => c2 (beq_iff_eq.mpr z)
      by_cases c3 : (i + k == a.size) = true
      · rw [if_pos c3]
        exact wpS_pure (.inl ⟨_, rfl, m.endA more (by have := beq_iff_eq.mp c3; omega) (by omega) (.inl (beq_iff_eq.mp c3)), g⟩)
      · rw [if_neg c3]
        have c3' : i + k ≠ a.size := fun z => c3 (beq_iff_eq.mpr z)
        exact wpS_galC m hk ⟨g, more, by omega, j1⟩ (by omega) rest
  · rw [if_neg c]
    have k0 : k = 0 := by omega
    subst k0
    exact wpS_galC m hk ⟨g, v.m, i1, j1⟩ hn rest
/-- how a turn of the plain loop ends -/
noncomputable def D1 (κ : PyProof.Rows.KeyKind) (a b : Array Keyed) (st : SortSt) (n : Nat) (c : NT) (st' : SortSt) : Prop :=
  (∃ r, c.1 = some r ∧ MOut κ a.toList b.toList r.toList ∧ GSt st st') ∨ (c.1 = none ∧ MV κ a b st st' c.2.1 c.2.2.1 c.2.2.2.1 ∧ n ≤ c.2.2.1 + c.2.2.2.1)
noncomputable def P1 (κ : PyProof.Rows.KeyKind) (a b : Array Keyed) (st : SortSt) (n : Nat) (f : ForInStep NT) (st' : SortSt) : Prop := match f with
  | .done c => D1 κ a b st n c st'
  | .yield c => c.1 = none ∧ MV κ a b st st' c.2.1 c.2.2.1 c.2.2.2.1 ∧ n ≤ c.2.2.1 + c.2.2.2.1
theorem wpS_oneB (m : MC κ a b) (hk : kindOf st = oneType') {n mg ca cb : Nat} (v : MV κ a b st st' r i j) (hn : n ≤ i + j + 1) :
    wpS (model prog w) A E s (oneB a b r i j mg ca cb) (P1 κ a b st n) st' := by
  have i1 := v.i1
  have j1 := v.j1
  obtain ⟨y, ey, hy⟩ := at_of (a := b) (i := j) (by omega)
  obtain ⟨x, ex, hx⟩ := at_of (a := a) (i := i) (by omega)
  unfold oneB
  refine wpS_bind (wpS_elem ey (wpS_bind (wpS_elem ex (wpS_bind (wpS_lt m.hO (v.g.kind hk) (m.kb y hy) (m.ka x hx) ?_)))))
  dsimp only
  cases hw : κ.blt (kyP κ y) (kyP κ x) with
  | true =>
    rw [if_pos rfl]
    refine wpS_bind (wpS_elem ey ?_)
    have h1 : MI κ a.toList b.toList (r.push y).toList i (j + 1) := by
      rw [push_list]; exact v.m.pushB m.hb (arr_at ey) fun z hz => leP_trans (KeyOrd.kle_of_klt hw) (pw_from m.ha (arr_at ex) z hz)
    by_cases c : (j + 1 == b.size) = true
    · rw [if_pos c]
      exact wpS_pure (.inl ⟨_, rfl, m.endA h1 (by omega) (by have := beq_iff_eq.mp c; omega) (.inr (beq_iff_eq.mp c)), v.g⟩)
    · rw [if_neg c]
      have c' : j + 1 ≠ b.size := fun z => c (beq_iff_eq.mpr z)
      have v' : MV κ a b st st' (r.push y) i (j + 1) := ⟨v.g, h1, i1, by omega⟩
      split
      · exact wpS_pure (.inr ⟨rfl, v', by show n ≤ i + (j + 1); omega⟩)
      · exact wpS_pure ⟨rfl, v', by show n ≤ i + (j + 1); omega⟩
  | false =>
    rw [if_neg (by decide)]
    refine wpS_bind (wpS_elem ex ?_)
    have h1 : MI κ a.toList b.toList (r.push x).toList (i + 1) j := by
      rw [push_list]; exact v.m.pushA m.ha (arr_at ex) fun z hz => leP_trans (show leP κ x y from hw) (pw_from m.hb (arr_at ey) z hz)
    by_cases c : (i + 1 + 1 == a.size) = true
    · rw [if_pos c]
      exact wpS_pure (.inl ⟨_, rfl, m.endB h1 (beq_iff_eq.mp c) (by omega), v.g⟩)
    · rw [if_neg c]
      have c' : i + 1 + 1 ≠ a.size := fun z => c (beq_iff_eq.mpr z)
      have v' : MV κ a b st st' (r.push x) (i + 1) j := ⟨v.g, h1, by omega, j1⟩
      split
      · exact wpS_pure (.inr ⟨rfl, v', by show n ≤ i + 1 + j; omega⟩)
      · exact wpS_pure ⟨rfl, v', by show n ≤ i + 1 + j; omega⟩
end
end TS

set_option maxRecDepth 100000
namespace TS
open PySem PyProof.Rows
section
variable {prog : Program} {w : World} {A : Around} {E : Value → Shared → Prop} {s : Shared} {κ : PyProof.Rows.KeyKind} {a b r : Array Keyed} {i j : Nat} {st st' : SortSt}
theorem wpS_lo {Q : Array Keyed → SortSt → Prop} (m : MC κ a b) (hk : kindOf st = oneType') (h1a : 1 ≤ a.size) (h1b : 1 ≤ b.size) (h0 : ∀ x y, b[0]? = some x → a[0]? = some y → leP κ x y)
    (q : ∀ r st', GSt st st' → MOut κ a.toList b.toList r.toList → Q r st') : wpS (model prog w) A E s (loP a b) Q st := by
  rw [loP_eq2]
  obtain ⟨y, ey, _⟩ := at_of (a := b) (i := 0) (by omega)
  obtain ⟨x, ex, _⟩ := at_of (a := a) (i := 0) (by omega)
  have m0 : MI κ a.toList b.toList (#[y] : Array Keyed).toList 0 1 := by
    have hn : MI κ a.toList b.toList [] 0 0 := ⟨by simp, .nil, by simp, by simp⟩
    have := hn.pushB m.hb (arr_at ey) fun z hz => leP_trans (h0 _ _ ey ex) (pw_from m.ha (arr_at ex) z hz)
    simpa using this
  refine wpS_bind (wpS_lift (wpAny_rule ⟨rfl, ?_⟩))
  refine wpS_bind (wpS_elem ey ?_)
  by_cases c1 : (1 == b.size) = true
  · rw [if_pos c1]
    exact wpS_pure (q _ _ (GSt.refl _) (m.endA m0 (by omega) (by have := beq_iff_eq.mp c1; omega) (.inr (beq_iff_eq.mp c1))))
  rw [if_neg c1]
  by_cases c2 : (0 + 1 == a.size) = true
  · rw [if_pos c2]
    exact wpS_pure (q _ _ (GSt.refl _) (m.endB m0 (beq_iff_eq.mp c2) (by omega)))
  rw [if_neg c2]
  have c1' : 1 ≠ b.size := fun z => c1 (beq_iff_eq.mpr z)
  have c2' : 0 + 1 ≠ a.size := fun z => c2 (beq_iff_eq.mpr z)
  refine wpS_bind (wpS_get ?_)
  refine wpS_bind (wpS_mono (wpS_forRange (I := fun n c st' => c.1 = none ∧ MV κ a b st st' c.2.1 c.2.2.1 c.2.2.2.1 ∧ n ≤ c.2.2.1 + c.2.2.2.1)
    (Q := fun c st' => ∃ r, c.1 = some r ∧ MOut κ a.toList b.toList r.toList ∧ GSt st st') ?step ?fin ?init) ?post)
  case init => exact ⟨rfl, ⟨GSt.refl _, m0, by show 0 + 1 < a.size; omega, by show 1 < b.size; omega⟩, Nat.zero_le _⟩
  case fin =>
    rintro c st' ⟨_, v, hn⟩
    have := v.i1
    have := v.j1
    omega
  case post =>
    rintro c st' ⟨r, e, ho, g⟩
    rw [e]
    exact wpS_pure (q _ _ g ho)
  case step =>
    rintro n c st' _ hn ⟨e1, v, hle⟩
    obtain ⟨c1, r, i, j, mg⟩ := c
    dsimp only at e1 v hle ⊢
    subst e1
    refine wpS_bind (wpS_mono (wpS_forRange (I := fun x d st2 => d.1 = none ∧ MV κ a b st st2 d.2.1 d.2.2.1 d.2.2.2.1 ∧ max n x ≤ d.2.2.1 + d.2.2.2.1 ∧ (1 ≤ x → n + 1 ≤ d.2.2.1 + d.2.2.2.1))
      (Q := fun d st2 => D1 κ a b st (n + 1) d st2) ?s1 ?f1 ?i1) ?p1)
    case i1 => exact ⟨rfl, v, by show max n 0 ≤ i + j; omega, fun z => absurd z (by omega)⟩
    case f1 =>
      rintro d st2 ⟨_, v2, h1, _⟩
      have := v2.i1
      have := v2.j1
      omega
    case s1 =>
      rintro x d st2 _ hx ⟨e2, v2, h1, h2⟩
      obtain ⟨d1, r2, i2, j2, ca, cb⟩ := d
      dsimp only at e2 v2 h1 h2 ⊢
      refine wpS_mono (wpS_oneB m hk (n := i2 + j2 + 1) v2 (Nat.le_refl _)) fun f st3 hf => ?_
      cases f with
      | done d' =>
        rcases hf with hf | ⟨a1, a2, a3⟩
        · exact .inl hf
        · exact .inr ⟨a1, a2, by omega⟩
      | yield d' =>
        obtain ⟨a1, a2, a3⟩ := hf
        exact ⟨a1, a2, by omega, fun _ => by omega⟩
    case p1 =>
      rintro d st2 hd
      obtain ⟨d1, r2, i2, j2, ca, cb⟩ := d
      rcases hd with ⟨r', e, ho, g⟩ | ⟨e, v2, h1⟩
      · dsimp only at e
        subst e
        exact wpS_pure ⟨r', rfl, ho, g⟩
      · dsimp only at e v2 h1
        subst e
        dsimp only
        refine wpS_bind (wpS_lift (wpAny_rule ⟨rfl, ?_⟩))
        refine wpS_bind (wpS_mono (wpS_forRange (I := fun x d st2 => d.1 = none ∧ MV κ a b st st2 d.2.1 d.2.2.1 d.2.2.2.1 ∧ max (n + 1) x ≤ d.2.2.1 + d.2.2.2.1)
          (Q := fun d st2 => D2 κ a b st (n + 1) d st2) ?s2 ?f2 ?i2) ?p2)
        case i2 => exact ⟨rfl, v2, by show max (n + 1) 0 ≤ i2 + j2; omega⟩
        case f2 =>
          rintro d st3 ⟨_, v3, h3⟩
          have := v3.i1
          have := v3.j1
          omega
        case s2 =>
          rintro x d st3 _ hx ⟨e3, v3, h3⟩
          obtain ⟨d1, r3, i3, j3, mg3, ca3, cb3⟩ := d
          dsimp only at e3 v3 h3 ⊢
          have key : ∀ g, wpS (model prog w) A E s (galB a b r3 i3 j3 g ca3 cb3) (fun f st' => match f with | .done b' => D2 κ a b st (n + 1) b' st' | .yield b' => b'.1 = none ∧ MV κ a b st st' b'.2.1 b'.2.2.1 b'.2.2.2.1 ∧ max (n + 1) (x + 1) ≤ b'.2.2.1 + b'.2.2.2.1) st3 := fun g =>
            wpS_mono (wpS_galB m hk (n := i3 + j3 + 1) v3 (Nat.le_refl _)) fun f st4 hf => by
              cases f with
              | done d' =>
                rcases hf with hf | ⟨a1, a2, a3⟩
                · exact .inl hf
                · exact .inr ⟨a1, a2, by omega⟩
              | yield d' =>
                obtain ⟨a1, a2, a3⟩ := hf
                exact ⟨a1, a2, by omega⟩
          split
          · exact wpS_mono (key _) fun f st4 hf => by cases f <;> exact hf
          · exact wpS_mono (key _) fun f st4 hf => by cases f <;> exact hf
        case p2 =>
          rintro d st3 hd
          obtain ⟨d1, r3, i3, j3, mg3, ca3, cb3⟩ := d
          rcases hd with ⟨r', e, ho, g⟩ | ⟨e, v3, h3⟩
          · dsimp only at e
            subst e
            exact wpS_pure ⟨r', rfl, ho, g⟩
          · dsimp only at e v3 h3
            subst e
            dsimp only
            exact wpS_bind (wpS_setMG fun st4 g4 => wpS_pure ⟨rfl, ⟨v3.g.trans g4, v3.m, v3.i1, v3.j1⟩, h3⟩)
end
end TS

set_option maxRecDepth 100000
namespace TS
open PySem PyProof.Rows
/-! ### the order turned about -/
noncomputable def opK (κ : PyProof.Rows.KeyKind) : PyProof.Rows.KeyKind where
  α := κ.α
  blt := fun x y => κ.blt y x
  irrefl := κ.irrefl
  trans := fun x y z h1 h2 => κ.trans z y x h2 h1
  negTrans := fun x y z h => (κ.negTrans z y x h).symm
  total := fun x y h1 h2 => κ.total x y h2 h1
  keyOf := κ.keyOf
  dflt := κ.dflt
section
variable {κ : PyProof.Rows.KeyKind}
theorem leP_op {x y : Keyed} : leP (opK κ) x y ↔ leP κ y x := Iff.rfl
theorem pw_rev {l : List Keyed} (h : l.Pairwise (leP κ)) : l.reverse.Pairwise (leP (opK κ)) := List.pairwise_reverse.mpr h
theorem out_rev {a b r : List Keyed} (h : MOut (opK κ) b.reverse a.reverse r.reverse) : MOut κ a b r := by
  obtain ⟨h1, h2⟩ := h
  refine ⟨?_, ?_⟩
  · have h3 : r.Perm (b.reverse ++ a.reverse) := (List.reverse_perm r).symm.trans h1
    rw [← List.reverse_append] at h3
    exact h3.trans (List.reverse_perm _)
  · exact List.pairwise_reverse.mp h2
end
/-! ### merging two runs, the upper first -/
noncomputable def hiP : Array Keyed → Array Keyed → StateT SortSt Sem (Array Keyed) := sortPriv% PySem.Builtin.mergeHi
noncomputable def gnA (a b r : Array Keyed) (i j : Nat) : Array Keyed := a.extract 0 i ++ b.extract 0 j ++ r.reverse
noncomputable def gnB (a b r : Array Keyed) (i j : Nat) : Array Keyed := b.extract 0 j ++ a.extract 0 i ++ r.reverse
theorem hiP_eq (a b : Array Keyed) : hiP a b = (do
    rule "list.sort.merge-hi"
    let all := a.size + b.size
    let mut i := a.size - 1
    let mut j := b.size
    let mut r : Array Keyed := #[← elem' a i]
    if i == 0 then return gnA a b r i j
    if j == 1 then return gnB a b r i j
    let mut mg := gallopOf (← get)
    for _ in [0:all] do
      let mut ca := 0
      let mut cb := 0
      for _ in [0:all] do
        let some aw ← lt' (← elem' b (j - 1)) (← elem' a (i - 1)) | return gnA a b r i j
        if aw then
          i := i - 1; r := r.push (← elem' a i); ca := ca + 1; cb := 0
          if i == 0 then return gnA a b r i j
          if ca ≥ mg then break
        else
          j := j - 1; r := r.push (← elem' b j); cb := cb + 1; ca := 0
          if j == 1 then return gnB a b r i j
          if cb ≥ mg then break
      rule "list.sort.gallop"
      mg := mg + 1
      for _ in [0:all] do
        if mg > 1 then mg := mg - 1
        setMG mg
        let some p ← gallopP false (← elem' b (j - 1)) a 0 i (i - 1) | return gnA a b r i j
        let k := i - p
        ca := k
        if k > 0 then
          r := r ++ (a.extract p i).reverse; i := p
          if i == 0 then return gnA a b r i j
        j := j - 1; r := r.push (← elem' b j)
        if j == 1 then return gnB a b r i j
        let some p ← gallopP true (← elem' a (i - 1)) b 0 j (j - 1) | return gnA a b r i j
        let k := j - p
        cb := k
        if k > 0 then
          r := r ++ (b.extract p j).reverse; j := p
          if j == 1 then return gnB a b r i j
          if j == 0 then return gnA a b r i j
        i := i - 1; r := r.push (← elem' a i)
        if i == 0 then return gnA a b r i j
        if ca < 7 && cb < 7 then break
      mg := mg + 1
      setMG mg
    unsupported "internal:list.sort.merge-bound") := rfl
end TS

set_option maxRecDepth 100000
namespace TS
open PySem PyProof.Rows
noncomputable abbrev HT := Option (Array Keyed) × Nat × Nat × Array Keyed × Nat × Nat × Nat
noncomputable abbrev HN := Option (Array Keyed) × Nat × Nat × Array Keyed × Nat × Nat
noncomputable def hiE (a b r : Array Keyed) (i j mg ca cb : Nat) : StateT SortSt Sem (ForInStep HT) := do
  let x ← elem' a (i - 1)
  if i - 1 == 0 then pure (.done (some (gnA a b (r.push x) (i - 1) j), i - 1, j, r.push x, mg, ca, cb))
  else if ca < 7 && cb < 7 then pure (.done (none, i - 1, j, r.push x, mg, ca, cb)) else pure (.yield (none, i - 1, j, r.push x, mg, ca, cb))
noncomputable def hiD (a b r : Array Keyed) (i j mg ca cb : Nat) : StateT SortSt Sem (ForInStep HT) := do
  let x ← elem' a (i - 1)
  let some p ← gallopP true x b 0 j (j - 1) | pure (.done (some (gnA a b r i j), i, j, r, mg, ca, cb))
  if j - p > 0 then
    if p == 1 then pure (.done (some (gnB a b (r ++ (b.extract p j).reverse) i p), i, p, r ++ (b.extract p j).reverse, mg, ca, j - p))
    else if p == 0 then pure (.done (some (gnA a b (r ++ (b.extract p j).reverse) i p), i, p, r ++ (b.extract p j).reverse, mg, ca, j - p))
    else hiE a b (r ++ (b.extract p j).reverse) i p mg ca (j - p)
  else hiE a b r i j mg ca (j - p)
noncomputable def hiC (a b r : Array Keyed) (i j mg ca cb : Nat) : StateT SortSt Sem (ForInStep HT) := do
  let y ← elem' b (j - 1)
  if j - 1 == 1 then pure (.done (some (gnB a b (r.push y) i (j - 1)), i, j - 1, r.push y, mg, ca, cb))
  else hiD a b (r.push y) i (j - 1) mg ca cb
noncomputable def hiB (a b r : Array Keyed) (i j mg ca cb : Nat) : StateT SortSt Sem (ForInStep HT) := do
  setMG mg
  let y ← elem' b (j - 1)
  let some p ← gallopP false y a 0 i (i - 1) | pure (.done (some (gnA a b r i j), i, j, r, mg, ca, cb))
  if i - p > 0 then
    if p == 0 then pure (.done (some (gnA a b (r ++ (a.extract p i).reverse) p j), p, j, r ++ (a.extract p i).reverse, mg, i - p, cb))
    else hiC a b (r ++ (a.extract p i).reverse) p j mg (i - p) cb
  else hiC a b r i j mg (i - p) cb
noncomputable def hiO (a b r : Array Keyed) (i j mg ca cb : Nat) : StateT SortSt Sem (ForInStep HN) := do
  let y ← elem' b (j - 1)
  let x ← elem' a (i - 1)
  let some aw ← lt' y x | pure (.done (some (gnA a b r i j), i, j, r, ca, cb))
  if aw then do
    let x ← elem' a (i - 1)
    if i - 1 == 0 then pure (.done (some (gnA a b (r.push x) (i - 1) j), i - 1, j, r.push x, ca + 1, 0))
    else if ca + 1 ≥ mg then pure (.done (none, i - 1, j, r.push x, ca + 1, 0)) else pure (.yield (none, i - 1, j, r.push x, ca + 1, 0))
  else do
    let y ← elem' b (j - 1)
    if j - 1 == 1 then pure (.done (some (gnB a b (r.push y) i (j - 1)), i, j - 1, r.push y, 0, cb + 1))
    else if cb + 1 ≥ mg then pure (.done (none, i, j - 1, r.push y, 0, cb + 1)) else pure (.yield (none, i, j - 1, r.push y, 0, cb + 1))
theorem hiP_eq2 (a b : Array Keyed) : hiP a b = (do
    liftM (rule "list.sort.merge-hi")
    let x ← elem' a (a.size - 1)
    if a.size - 1 == 0 then pure (gnA a b #[x] (a.size - 1) b.size)
    else if b.size == 1 then pure (gnB a b #[x] (a.size - 1) b.size)
    else do
      let t ← get
      let c ← forIn [0:a.size + b.size] ((none, a.size - 1, b.size, #[x], gallopOf t) : Option (Array Keyed) × Nat × Nat × Array Keyed × Nat) fun _ c => do
        let d ← forIn [0:a.size + b.size] ((none, c.2.1, c.2.2.1, c.2.2.2.1, 0, 0) : HN) fun _ d => hiO a b d.2.2.2.1 d.2.1 d.2.2.1 c.2.2.2.2 d.2.2.2.2.1 d.2.2.2.2.2
        match d.1 with
        | some r => pure (.done (some r, d.2.1, d.2.2.1, d.2.2.2.1, c.2.2.2.2))
        | none => do
          liftM (rule "list.sort.gallop")
          let e ← forIn [0:a.size + b.size] ((none, d.2.1, d.2.2.1, d.2.2.2.1, c.2.2.2.2 + 1, d.2.2.2.2.1, d.2.2.2.2.2) : HT) fun _ e =>
            if e.2.2.2.2.1 > 1 then hiB a b e.2.2.2.1 e.2.1 e.2.2.1 (e.2.2.2.2.1 - 1) e.2.2.2.2.2.1 e.2.2.2.2.2.2
            else hiB a b e.2.2.2.1 e.2.1 e.2.2.1 e.2.2.2.2.1 e.2.2.2.2.2.1 e.2.2.2.2.2.2
          match e.1 with
          | some r => pure (.done (some r, e.2.1, e.2.2.1, e.2.2.2.1, e.2.2.2.2.1))
          | none => do
            setMG (e.2.2.2.2.1 + 1)
            pure (.yield (none, e.2.1, e.2.2.1, e.2.2.2.1, e.2.2.2.2.1 + 1))
      match c.1 with
      | some r => pure r
      | none => liftM (unsupported "internal:list.sort.merge-bound" : Sem (Array Keyed))) := by
  rw [hiP_eq]
  unfold hiO hiB hiC hiD hiE
  dsimp only
  congr 1
  funext u
  congr 1
  funext y
  congr 1
  congr 1
  congr 1
  funext t
  congr 1
  · congr 1
    funext z c
    congr 1
    funext d
    obtain ⟨d1, d2⟩ := d
    cases d1 with
    | some r => rfl
    | none =>
      dsimp only
      congr 1
      funext u
      congr 1
      congr 1
      funext z e
      obtain ⟨z1, z2⟩ := z
      cases z1 <;> rfl
  · funext c
    obtain ⟨c1, c2⟩ := c
    cases c1 <;> rfl
end TS

set_option maxRecDepth 100000
namespace TS
open PySem PyProof.Rows
/-- two rows to merge, the upper first -/
structure HC (κ : PyProof.Rows.KeyKind) (a b : Array Keyed) : Prop where
  hO : κ.OneLt
  ka : ∀ p ∈ a.toList, HasK κ p
  kb : ∀ p ∈ b.toList, HasK κ p
  ha : a.toList.Pairwise (leP κ)
  hb : b.toList.Pairwise (leP κ)
  hF : ∀ x ∈ a.toList, ∀ y, b[0]? = some y → leP κ y x
noncomputable def HI (κ : PyProof.Rows.KeyKind) (a b r : Array Keyed) (i j : Nat) : Prop := MI (opK κ) b.toList.reverse a.toList.reverse r.toList (b.size - j) (a.size - i)
section
variable {κ : PyProof.Rows.KeyKind} {a b r : Array Keyed} {i j : Nat}
theorem rev_drop {l : Array Keyed} {j : Nat} (h : j ≤ l.size) : l.toList.reverse.drop (l.size - j) = (l.toList.take j).reverse := by
  rw [List.drop_reverse, Array.length_toList, show l.size - (l.size - j) = j by omega]
theorem rev_at {l : Array Keyed} {j : Nat} {y : Keyed} (h1 : 1 ≤ j) (h : j ≤ l.size) (e : l[j - 1]? = some y) : l.toList.reverse[l.size - j]? = some y := by
  rw [List.getElem?_reverse (by rw [Array.length_toList]; omega), Array.length_toList, show l.size - 1 - (l.size - j) = j - 1 by omega]
  exact arr_at e
theorem mem_rev {l : Array Keyed} {j : Nat} (h : j ≤ l.size) {y : Keyed} : y ∈ l.toList.reverse.drop (l.size - j) ↔ y ∈ l.toList.take j := by rw [rev_drop h, List.mem_reverse]
theorem HI.pushA {x : Keyed} (h : HI κ a b r i j) (ha : a.toList.Pairwise (leP κ)) (h1 : 1 ≤ i) (hi : i ≤ a.size) (hj : j ≤ b.size) (ex : a[i - 1]? = some x) (hle : ∀ y ∈ b.toList.take j, leP κ y x) : HI κ a b (r.push x) (i - 1) j := by
  unfold HI
  rw [push_list, show a.size - (i - 1) = a.size - i + 1 by omega]
  exact MI.pushB h (pw_rev ha) (rev_at h1 hi ex) fun y hy => leP_op.mpr (hle y ((mem_rev hj).mp hy))
theorem HI.pushB {y : Keyed} (h : HI κ a b r i j) (hb : b.toList.Pairwise (leP κ)) (h1 : 1 ≤ j) (hi : i ≤ a.size) (hj : j ≤ b.size) (ey : b[j - 1]? = some y) (hle : ∀ x ∈ a.toList.take i, leP κ x y) : HI κ a b (r.push y) i (j - 1) := by
  unfold HI
  rw [push_list, show b.size - (j - 1) = b.size - j + 1 by omega]
  exact MI.pushA h (pw_rev hb) (rev_at h1 hj ey) fun x hx => leP_op.mpr (hle x ((mem_rev hi).mp hx))
theorem extr_list (r a : Array Keyed) {p i : Nat} (hp : p ≤ i) (hi : i ≤ a.size) : (r ++ (a.extract p i).reverse).toList = r.toList ++ (a.toList.reverse.drop (a.size - i)).take (i - p) := by
  rw [Array.toList_append, Array.toList_reverse, Array.toList_extract, List.extract_eq_drop_take, rev_drop hi, List.take_reverse, List.length_take, Array.length_toList, show min i a.size - (i - p) = p by omega, List.drop_take]
theorem HI.manyA {p : Nat} (h : HI κ a b r i j) (ha : a.toList.Pairwise (leP κ)) (hp : p ≤ i) (hi : i ≤ a.size) (hj : j ≤ b.size) (hle : ∀ t x, p ≤ t → t < i → a[t]? = some x → ∀ y ∈ b.toList.take j, leP κ y x) : HI κ a b (r ++ (a.extract p i).reverse) p j := by
  unfold HI
  rw [extr_list _ _ hp hi, show a.size - p = a.size - i + (i - p) by omega]
  refine MI.manyB (pw_rev ha) (i - p) h (by rw [List.length_reverse, Array.length_toList]; omega) fun t x ht ex y hy => leP_op.mpr ?_
  rw [List.getElem?_reverse (by rw [Array.length_toList]; omega), Array.length_toList] at ex
  exact hle (a.size - 1 - (a.size - i + t)) x (by omega) (by omega) (by simpa using ex) y ((mem_rev hj).mp hy)
theorem HI.manyB {p : Nat} (h : HI κ a b r i j) (hb : b.toList.Pairwise (leP κ)) (hp : p ≤ j) (hi : i ≤ a.size) (hj : j ≤ b.size) (hle : ∀ t y, p ≤ t → t < j → b[t]? = some y → ∀ x ∈ a.toList.take i, leP κ x y) : HI κ a b (r ++ (b.extract p j).reverse) i p := by
  unfold HI
  rw [extr_list _ _ hp hj, show b.size - p = b.size - j + (j - p) by omega]
  refine MI.manyA (pw_rev hb) (j - p) h (by rw [List.length_reverse, Array.length_toList]; omega) fun t y ht ey x hx => leP_op.mpr ?_
  rw [List.getElem?_reverse (by rw [Array.length_toList]; omega), Array.length_toList] at ey
  exact hle (b.size - 1 - (b.size - j + t)) y (by omega) (by omega) (by simpa using ey) x ((mem_rev hi).mp hx)
theorem ext0 (a : Array Keyed) (i : Nat) : (a.extract 0 i).toList = a.toList.take i := by
  rw [Array.toList_extract, List.extract_eq_drop_take, List.drop_zero, Nat.sub_zero]
theorem HC.endA (m : HC κ a b) (h : HI κ a b r i j) (hi : i ≤ a.size) (hj : j ≤ b.size) (he : i = 0 ∨ j = 0) : MOut κ a.toList b.toList (gnA a b r i j).toList := by
  refine out_rev ?_
  have hla : a.toList.reverse.length = a.size := by simp
  have hlb : b.toList.reverse.length = b.size := by simp
  have e : (gnA a b r i j).toList.reverse = r.toList ++ b.toList.reverse.drop (b.size - j) ++ a.toList.reverse.drop (a.size - i) := by
    unfold gnA
    rw [Array.toList_append, Array.toList_append, ext0, ext0, Array.toList_reverse, rev_drop hi, rev_drop hj, List.reverse_append, List.reverse_append, List.reverse_reverse, List.append_assoc]
  rw [e]
  exact MI.finA h (pw_rev m.hb) (pw_rev m.ha) (by omega) (by omega) (by omega)
theorem HC.endB (m : HC κ a b) (h : HI κ a b r i j) (hi : i ≤ a.size) (hj : j = 1) (h1b : 1 ≤ b.size) : MOut κ a.toList b.toList (gnB a b r i j).toList := by
  subst hj
  refine out_rev ?_
  have hla : a.toList.reverse.length = a.size := by simp
  have hlb : b.toList.reverse.length = b.size := by simp
  have e : (gnB a b r i 1).toList.reverse = r.toList ++ a.toList.reverse.drop (a.size - i) ++ b.toList.reverse.drop (b.size - 1) := by
    unfold gnB
    rw [Array.toList_append, Array.toList_append, ext0, ext0, Array.toList_reverse, rev_drop hi, rev_drop h1b, List.reverse_append, List.reverse_append, List.reverse_reverse, List.append_assoc]
  rw [e]
  refine MI.finB h (pw_rev m.hb) (pw_rev m.ha) (by omega) (by omega) fun x hx y hy => leP_op.mpr ?_
  have hx' := (mem_rev hi).mp hx
  have hy' := (mem_rev h1b).mp hy
  obtain ⟨y0, e0, _⟩ := at_of (a := b) (i := 0) (by omega)
  have : y = y0 := by
    rw [List.take_one] at hy'
    have : b.toList.head? = some y0 := by rw [List.head?_eq_getElem?]; exact arr_at e0
    rw [this] at hy'
    simpa using hy'
  rw [this]
  exact m.hF x (List.mem_of_mem_take hx') y0 e0
end
end TS

set_option maxRecDepth 100000
namespace TS
open PySem PyProof.Rows
structure HV (κ : PyProof.Rows.KeyKind) (a b : Array Keyed) (st st' : SortSt) (r : Array Keyed) (i j : Nat) : Prop where
  g : GSt st st'
  m : HI κ a b r i j
  i1 : 1 ≤ i
  i2 : i ≤ a.size
  j1 : 2 ≤ j
  j2 : j ≤ b.size
noncomputable def HD2 (κ : PyProof.Rows.KeyKind) (a b : Array Keyed) (st : SortSt) (n : Nat) (c : HT) (st' : SortSt) : Prop :=
  (∃ r, c.1 = some r ∧ MOut κ a.toList b.toList r.toList ∧ GSt st st') ∨ (c.1 = none ∧ HV κ a b st st' c.2.2.2.1 c.2.1 c.2.2.1 ∧ n ≤ (a.size - c.2.1) + (b.size - c.2.2.1))
noncomputable def HP2 (κ : PyProof.Rows.KeyKind) (a b : Array Keyed) (st : SortSt) (n : Nat) (f : ForInStep HT) (st' : SortSt) : Prop := match f with
  | .done c => HD2 κ a b st n c st'
  | .yield c => c.1 = none ∧ HV κ a b st st' c.2.2.2.1 c.2.1 c.2.2.1 ∧ n ≤ (a.size - c.2.1) + (b.size - c.2.2.1)
section
variable {prog : Program} {w : World} {A : Around} {E : Value → Shared → Prop} {s : Shared} {κ : PyProof.Rows.KeyKind} {a b r : Array Keyed} {i j : Nat} {st st' : SortSt}
theorem pw_take {a : Array Keyed} (ha : a.toList.Pairwise (leP κ)) {i : Nat} {x : Keyed} (h1 : 1 ≤ i) (ex : a[i - 1]? = some x) : ∀ z ∈ a.toList.take i, leP κ z x := fun z hz => by
  obtain ⟨t, ht⟩ := List.getElem?_of_mem hz
  have hti : t < i := by
    have := (List.getElem?_eq_some_iff.mp ht).1
    rw [List.length_take] at this; omega
  rw [List.getElem?_take_of_lt hti] at ht
  refine pw_from ha ht x ?_
  have e : (a.toList.drop t)[i - 1 - t]? = some x := by
    rw [List.getElem?_drop, show t + (i - 1 - t) = i - 1 by omega]; exact arr_at ex
  exact List.mem_of_getElem? e
theorem take_at {a : Array Keyed} {i : Nat} {z : Keyed} (hz : z ∈ a.toList.take i) : ∃ t, t < i ∧ a[t]? = some z := by
  obtain ⟨t, ht⟩ := List.getElem?_of_mem hz
  have hti : t < i := by
    have := (List.getElem?_eq_some_iff.mp ht).1
    rw [List.length_take] at this; omega
  rw [List.getElem?_take_of_lt hti] at ht
  exact ⟨t, hti, by simpa using ht⟩
theorem wpS_hiE (m : HC κ a b) {n mg ca cb : Nat} (v : HV κ a b st st' r i j) (hn : n ≤ (a.size - i) + (b.size - j) + 1) (hle : ∀ x, a[i - 1]? = some x → ∀ y ∈ b.toList.take j, leP κ y x) :
    wpS (model prog w) A E s (hiE a b r i j mg ca cb) (HP2 κ a b st n) st' := by
  have i1 := v.i1
  have i2 := v.i2
  have j1 := v.j1
  have j2 := v.j2
  obtain ⟨x, ex, _⟩ := at_of (a := a) (i := i - 1) (by omega)
  have h1 := v.m.pushA m.ha i1 i2 j2 ex (hle x ex)
  unfold hiE
  refine wpS_bind (wpS_elem ex ?_)
  by_cases c : (i - 1 == 0) = true
  · rw [if_pos c]
    exact wpS_pure (.inl ⟨_, rfl, m.endA h1 (by omega) j2 (.inl (beq_iff_eq.mp c)), v.g⟩)
  · rw [if_neg c]
    have c' : i - 1 ≠ 0 := fun z => c (beq_iff_eq.mpr z)
    have v' : HV κ a b st st' (r.push x) (i - 1) j := ⟨v.g, h1, by omega, by omega, j1, j2⟩
    split
    · exact wpS_pure (.inr ⟨rfl, v', by show n ≤ (a.size - (i - 1)) + (b.size - j); omega⟩)
    · exact wpS_pure ⟨rfl, v', by show n ≤ (a.size - (i - 1)) + (b.size - j); omega⟩
theorem wpS_hiD (m : HC κ a b) (hk : kindOf st = oneType') {n mg ca cb : Nat} (v : HV κ a b st st' r i j) (hn : n ≤ (a.size - i) + (b.size - j) + 1) :
    wpS (model prog w) A E s (hiD a b r i j mg ca cb) (HP2 κ a b st n) st' := by
  have i1 := v.i1
  have i2 := v.i2
  have j1 := v.j1
  have j2 := v.j2
  obtain ⟨x, ex, hx⟩ := at_of (a := a) (i := i - 1) (by omega)
  unfold hiD
  refine wpS_bind (wpS_elem ex (wpS_bind (gallop_left m.hO (v.g.kind hk) (by omega) (by omega) (m.ka x hx) m.kb (srt_at m.hb (by omega)) fun p hp hlt hge => ?_)))
  dsimp only
  have more : HI κ a b (r ++ (b.extract p j).reverse) i p := v.m.manyB m.hb hp i2 j2 fun t y h1 h2 ey z hz => leP_trans (pw_take m.ha i1 ex z hz) (hge t y h1 h2 (by rw [Nat.zero_add]; exact ey))
  have rest : ∀ x', a[i - 1]? = some x' → ∀ y ∈ b.toList.take p, leP κ y x' := fun x' ex' y hy => by
    rw [ex] at ex'; cases ex'
    obtain ⟨t, ht, et⟩ := take_at hy
    exact KeyOrd.kle_of_klt (hlt t y ht (by rw [Nat.zero_add]; exact et))
  by_cases c : j - p > 0
  · rw [if_pos c]
    by_cases c2 : (p == 1) = true
    · rw [if_pos c2]
      exact wpS_pure (.inl ⟨_, rfl, m.endB more i2 (beq_iff_eq.mp c2) (by omega), v.g⟩)
    · rw [if_neg c2]
      have c2' : p ≠ 1 := fun z => c2 (beq_iff_eq.mpr z)
      by_cases c3 : (p == 0) = true
      · rw [if_pos c3]
        exact wpS_pure (.inl ⟨_, rfl, m.endA more i2 (by omega) (.inr (beq_iff_eq.mp c3)), v.g⟩)
      · rw [if_neg c3]
        have c3' : p ≠ 0 := fun z => c3 (beq_iff_eq.mpr z)
        exact wpS_hiE m ⟨v.g, more, i1, i2, by omega, by omega⟩ (by omega) rest
  · rw [if_neg c]
    have e : p = j := by omega
    subst e
    exact wpS_hiE m v hn rest
theorem wpS_hiC (m : HC κ a b) (hk : kindOf st = oneType') {n mg ca cb : Nat} (v : HV κ a b st st' r i j) (hn : n ≤ (a.size - i) + (b.size - j) + 1) (hle : ∀ y, b[j - 1]? = some y → ∀ x ∈ a.toList.take i, leP κ x y) :
    wpS (model prog w) A E s (hiC a b r i j mg ca cb) (HP2 κ a b st n) st' := by
  have i1 := v.i1
  have i2 := v.i2
  have j1 := v.j1
  have j2 := v.j2
  obtain ⟨y, ey, hy⟩ := at_of (a := b) (i := j - 1) (by omega)
  have h1 := v.m.pushB m.hb (by omega) i2 j2 ey (hle y ey)
  unfold hiC
  refine wpS_bind (wpS_elem ey ?_)
  by_cases c : (j - 1 == 1) = true
  · rw [if_pos c]
    exact wpS_pure (.inl ⟨_, rfl, m.endB h1 i2 (beq_iff_eq.mp c) (by omega), v.g⟩)
  · rw [if_neg c]
    have c' : j - 1 ≠ 1 := fun z => c (beq_iff_eq.mpr z)
    exact wpS_hiD m hk ⟨v.g, h1, i1, i2, by omega, by omega⟩ (by omega)
theorem wpS_hiB (m : HC κ a b) (hk : kindOf st = oneType') {n mg ca cb : Nat} (v : HV κ a b st st' r i j) (hn : n ≤ (a.size - i) + (b.size - j) + 1) :
    wpS (model prog w) A E s (hiB a b r i j mg ca cb) (HP2 κ a b st n) st' := by
  have i1 := v.i1
  have i2 := v.i2
  have j1 := v.j1
  have j2 := v.j2
  obtain ⟨y, ey, hy⟩ := at_of (a := b) (i := j - 1) (by omega)
  unfold hiB
  refine wpS_bind (wpS_setMG fun st2 g2 => ?_)
  have g := v.g.trans g2
  refine wpS_bind (wpS_elem ey (wpS_bind (gallop_right m.hO (g.kind hk) (by omega) (by omega) (m.kb y hy) m.ka (srt_at m.ha (by omega)) fun p hp hle hgt => ?_)))
  dsimp only
  have more : HI κ a b (r ++ (a.extract p i).reverse) p j := v.m.manyA m.ha hp i2 j2 fun t x h1 h2 ex z hz => leP_trans (pw_take m.hb (by omega) ey z hz) (KeyOrd.kle_of_klt (hgt t x h1 h2 (by rw [Nat.zero_add]; exact ex)))
  have rest : ∀ y', b[j - 1]? = some y' → ∀ x ∈ a.toList.take p, leP κ x y' := fun y' ey' x hx => by
    rw [ey] at ey'; cases ey'
    obtain ⟨t, ht, et⟩ := take_at hx
    exact hle t x ht (by rw [Nat.zero_add]; exact et)
  by_cases c : i - p > 0
  · rw [if_pos c]
    by_cases c2 : (p == 0) = true
    · rw [if_pos c2]
      exact wpS_pure (.inl ⟨_, rfl, m.endA more (by omega) j2 (.inl (beq_iff_eq.mp c2)), g⟩)
    · rw [if_neg c2]
      have c2' : p ≠ 0 := fun z => c2 (beq_iff_eq.mpr z)
      exact wpS_hiC m hk ⟨g, more, by omega, by omega, j1, j2⟩ (by omega) rest
  · rw [if_neg c]
    have e : p = i := by omega
    subst e
    exact wpS_hiC m hk ⟨g, v.m, i1, i2, j1, j2⟩ hn rest
end
end TS

set_option maxRecDepth 100000
namespace TS
open PySem PyProof.Rows
noncomputable def HD1 (κ : PyProof.Rows.KeyKind) (a b : Array Keyed) (st : SortSt) (n : Nat) (c : HN) (st' : SortSt) : Prop :=
  (∃ r, c.1 = some r ∧ MOut κ a.toList b.toList r.toList ∧ GSt st st') ∨ (c.1 = none ∧ HV κ a b st st' c.2.2.2.1 c.2.1 c.2.2.1 ∧ n ≤ (a.size - c.2.1) + (b.size - c.2.2.1))
noncomputable def HP1 (κ : PyProof.Rows.KeyKind) (a b : Array Keyed) (st : SortSt) (n : Nat) (f : ForInStep HN) (st' : SortSt) : Prop := match f with
  | .done c => HD1 κ a b st n c st'
  | .yield c => c.1 = none ∧ HV κ a b st st' c.2.2.2.1 c.2.1 c.2.2.1 ∧ n ≤ (a.size - c.2.1) + (b.size - c.2.2.1)
section
variable {prog : Program} {w : World} {A : Around} {E : Value → Shared → Prop} {s : Shared} {κ : PyProof.Rows.KeyKind} {a b r : Array Keyed} {i j : Nat} {st st' : SortSt}
theorem wpS_hiO (m : HC κ a b) (hk : kindOf st = oneType') {n mg ca cb : Nat} (v : HV κ a b st st' r i j) (hn : n ≤ (a.size - i) + (b.size - j) + 1) :
    wpS (model prog w) A E s (hiO a b r i j mg ca cb) (HP1 κ a b st n) st' := by
  have i1 := v.i1
  have i2 := v.i2
  have j1 := v.j1
  have j2 := v.j2
  obtain ⟨y, ey, hy⟩ := at_of (a := b) (i := j - 1) (by omega)
  obtain ⟨x, ex, hx⟩ := at_of (a := a) (i := i - 1) (by omega)
  unfold hiO
  refine wpS_bind (wpS_elem ey (wpS_bind (wpS_elem ex (wpS_bind (wpS_lt m.hO (v.g.kind hk) (m.kb y hy) (m.ka x hx) ?_)))))
  dsimp only
  cases hw : κ.blt (kyP κ y) (kyP κ x) with
  | true =>
    rw [if_pos rfl]
    refine wpS_bind (wpS_elem ex ?_)
    have h1 := v.m.pushA m.ha i1 i2 j2 ex fun z hz => leP_trans (pw_take m.hb (by omega) ey z hz) (KeyOrd.kle_of_klt hw)
    by_cases c : (i - 1 == 0) = true
    · rw [if_pos c]
      exact wpS_pure (.inl ⟨_, rfl, m.endA h1 (by omega) j2 (.inl (beq_iff_eq.mp c)), v.g⟩)
    · rw [if_neg c]
      have c' : i - 1 ≠ 0 := fun z => c (beq_iff_eq.mpr z)
      have v' : HV κ a b st st' (r.push x) (i - 1) j := ⟨v.g, h1, by omega, by omega, j1, j2⟩
      split
      · exact wpS_pure (.inr ⟨rfl, v', by show n ≤ (a.size - (i - 1)) + (b.size - j); omega⟩)
      · exact wpS_pure ⟨rfl, v', by show n ≤ (a.size - (i - 1)) + (b.size - j); omega⟩
  | false =>
    rw [if_neg (by decide)]
    refine wpS_bind (wpS_elem ey ?_)
    have h1 := v.m.pushB m.hb (by omega) i2 j2 ey fun z hz => leP_trans (pw_take m.ha i1 ex z hz) (show leP κ x y from hw)
    by_cases c : (j - 1 == 1) = true
    · rw [if_pos c]
      exact wpS_pure (.inl ⟨_, rfl, m.endB h1 i2 (beq_iff_eq.mp c) (by omega), v.g⟩)
    · rw [if_neg c]
      have c' : j - 1 ≠ 1 := fun z => c (beq_iff_eq.mpr z)
      have v' : HV κ a b st st' (r.push y) i (j - 1) := ⟨v.g, h1, i1, i2, by omega, by omega⟩
      split
      · exact wpS_pure (.inr ⟨rfl, v', by show n ≤ (a.size - i) + (b.size - (j - 1)); omega⟩)
      · exact wpS_pure ⟨rfl, v', by show n ≤ (a.size - i) + (b.size - (j - 1)); omega⟩
theorem wpS_hi {Q : Array Keyed → SortSt → Prop} (m : HC κ a b) (hk : kindOf st = oneType') (h1a : 1 ≤ a.size) (h1b : 1 ≤ b.size) (h0 : ∀ x y, b[b.size - 1]? = some x → a[a.size - 1]? = some y → leP κ x y)
    (q : ∀ r st', GSt st st' → MOut κ a.toList b.toList r.toList → Q r st') : wpS (model prog w) A E s (hiP a b) Q st := by
  rw [hiP_eq2]
  obtain ⟨y, ey, _⟩ := at_of (a := b) (i := b.size - 1) (by omega)
  obtain ⟨x, ex, _⟩ := at_of (a := a) (i := a.size - 1) (by omega)
  have m0 : HI κ a b #[x] (a.size - 1) b.size := by
    have hn : HI κ a b #[] a.size b.size := by
      unfold HI
      rw [Nat.sub_self, Nat.sub_self]
      exact ⟨by simp, .nil, by simp, by simp⟩
    exact hn.pushA m.ha h1a (Nat.le_refl _) (Nat.le_refl _) ex fun z hz => leP_trans (pw_take m.hb h1b ey z hz) (h0 _ _ ey ex)
  refine wpS_bind (wpS_lift (wpAny_rule ⟨rfl, ?_⟩))
  refine wpS_bind (wpS_elem ex ?_)
  by_cases c1 : (a.size - 1 == 0) = true
  · rw [if_pos c1]
    exact wpS_pure (q _ _ (GSt.refl _) (m.endA m0 (by omega) (by omega) (.inl (beq_iff_eq.mp c1))))
  rw [if_neg c1]
  by_cases c2 : (b.size == 1) = true
  · rw [if_pos c2]
    exact wpS_pure (q _ _ (GSt.refl _) (m.endB m0 (by omega) (beq_iff_eq.mp c2) h1b))
  rw [if_neg c2]
  have c1' : a.size - 1 ≠ 0 := fun z => c1 (beq_iff_eq.mpr z)
  have c2' : b.size ≠ 1 := fun z => c2 (beq_iff_eq.mpr z)
  refine wpS_bind (wpS_get ?_)
  refine wpS_bind (wpS_mono (wpS_forRange (I := fun n c st' => c.1 = none ∧ HV κ a b st st' c.2.2.2.1 c.2.1 c.2.2.1 ∧ n ≤ (a.size - c.2.1) + (b.size - c.2.2.1))
    (Q := fun c st' => ∃ r, c.1 = some r ∧ MOut κ a.toList b.toList r.toList ∧ GSt st st') ?step ?fin ?init) ?post)
  case init => exact ⟨rfl, ⟨GSt.refl _, m0, by show 1 ≤ a.size - 1; omega, by show a.size - 1 ≤ a.size; omega, by show 2 ≤ b.size; omega, Nat.le_refl _⟩, Nat.zero_le _⟩
  case fin =>
    rintro c st' ⟨_, v, hn⟩
    have := v.i1
    have := v.i2
    have := v.j1
    have := v.j2
    omega
  case post =>
    rintro c st' ⟨r, e, ho, g⟩
    rw [e]
    exact wpS_pure (q _ _ g ho)
  case step =>
    rintro n c st' _ hn ⟨e1, v, hle⟩
    obtain ⟨c1, i, j, r, mg⟩ := c
    dsimp only at e1 v hle ⊢
    subst e1
    refine wpS_bind (wpS_mono (wpS_forRange (I := fun x d st2 => d.1 = none ∧ HV κ a b st st2 d.2.2.2.1 d.2.1 d.2.2.1 ∧ max n x ≤ (a.size - d.2.1) + (b.size - d.2.2.1))
      (Q := fun d st2 => HD1 κ a b st (n + 1) d st2) ?s1 ?f1 ?i1) ?p1)
    case i1 => exact ⟨rfl, v, by show max n 0 ≤ (a.size - i) + (b.size - j); omega⟩
    case f1 =>
      rintro d st2 ⟨_, v2, h1⟩
      have := v2.i1
      have := v2.i2
      have := v2.j1
      have := v2.j2
      omega
    case s1 =>
      rintro x d st2 _ hx ⟨e2, v2, h1⟩
      obtain ⟨d1, i2, j2, r2, ca, cb⟩ := d
      dsimp only at e2 v2 h1 ⊢
      refine wpS_mono (wpS_hiO m hk (n := (a.size - i2) + (b.size - j2) + 1) v2 (Nat.le_refl _)) fun f st3 hf => ?_
      cases f with
      | done d' =>
        rcases hf with hf | ⟨a1, a2, a3⟩
        · exact .inl hf
        · exact .inr ⟨a1, a2, by omega⟩
      | yield d' =>
        obtain ⟨a1, a2, a3⟩ := hf
        exact ⟨a1, a2, by omega⟩
    case p1 =>
      rintro d st2 hd
      obtain ⟨d1, i2, j2, r2, ca, cb⟩ := d
      rcases hd with ⟨r', e, ho, g⟩ | ⟨e, v2, h1⟩
      · dsimp only at e
        subst e
        exact wpS_pure ⟨r', rfl, ho, g⟩
      · dsimp only at e v2 h1
        subst e
        dsimp only
        refine wpS_bind (wpS_lift (wpAny_rule ⟨rfl, ?_⟩))
        refine wpS_bind (wpS_mono (wpS_forRange (I := fun x d st2 => d.1 = none ∧ HV κ a b st st2 d.2.2.2.1 d.2.1 d.2.2.1 ∧ max (n + 1) x ≤ (a.size - d.2.1) + (b.size - d.2.2.1))
          (Q := fun d st2 => HD2 κ a b st (n + 1) d st2) ?s2 ?f2 ?i2) ?p2)
        case i2 => exact ⟨rfl, v2, by show max (n + 1) 0 ≤ (a.size - i2) + (b.size - j2); omega⟩
        case f2 =>
          rintro d st3 ⟨_, v3, h3⟩
          have := v3.i1
          have := v3.i2
          have := v3.j1
          have := v3.j2
          omega
        case s2 =>
          rintro x d st3 _ hx ⟨e3, v3, h3⟩
          obtain ⟨d1, i3, j3, r3, mg3, ca3, cb3⟩ := d
          dsimp only at e3 v3 h3 ⊢
          split
          all_goals
            refine wpS_mono (wpS_hiB m hk (n := (a.size - i3) + (b.size - j3) + 1) v3 (Nat.le_refl _)) fun f st4 hf => ?_
            cases f with
            | done d' =>
              rcases hf with hf | ⟨a1, a2, a3⟩
              · exact .inl hf
              · exact .inr ⟨a1, a2, by omega⟩
            | yield d' =>
              obtain ⟨a1, a2, a3⟩ := hf
              exact ⟨a1, a2, by omega⟩
        case p2 =>
          rintro d st3 hd
          obtain ⟨d1, i3, j3, r3, mg3, ca3, cb3⟩ := d
          rcases hd with ⟨r', e, ho, g⟩ | ⟨e, v3, h3⟩
          · dsimp only at e
            subst e
            exact wpS_pure ⟨r', rfl, ho, g⟩
          · dsimp only at e v3 h3
            subst e
            dsimp only
            exact wpS_bind (wpS_setMG fun st4 g4 => wpS_pure ⟨rfl, ⟨v3.g.trans g4, v3.m, v3.i1, v3.i2, v3.j1, v3.j2⟩, h3⟩)
end
end TS

set_option maxRecDepth 100000
namespace TS
open PySem PyProof.Rows
/-! ### two neighbouring runs made one -/
noncomputable def layP (v : Array Keyed) (at_ : Nat) (z : Array Keyed) : Array Keyed := z.toList.zipIdx.foldl (fun u (p, k) => u.setIfInBounds (at_ + k) p) v
theorem lay_go : ∀ (M : List Keyed) (k : Nat) (v : Array Keyed) (P O S : List Keyed) (c : Nat), v.toList = P ++ O ++ S → P.length = c + k → O.length = M.length →
    ((M.zipIdx k).foldl (fun u (p, q) => u.setIfInBounds (c + q) p) v).toList = P ++ M ++ S
  | [], k, v, P, O, S, c, h, _, hO => by
    have : O = [] := List.eq_nil_of_length_eq_zero (by simpa using hO)
    subst this
    simpa using h
  | x :: M, k, v, P, O, S, c, h, hP, hO => by
    match O, hO with
    | o :: O, hO =>
      rw [List.zipIdx_cons, List.foldl_cons]
      have h1 : (v.setIfInBounds (c + k) x).toList = (P ++ [x]) ++ O ++ S := by
        rw [Array.toList_setIfInBounds, h, ← hP]
        simp
      have := lay_go M (k + 1) (v.setIfInBounds (c + k) x) (P ++ [x]) O S c h1 (by simp; omega) (by simpa using hO)
      rw [this]; simp
theorem lay_list {v z : Array Keyed} {P O S : List Keyed} (h : v.toList = P ++ O ++ S) (hO : O.length = z.size) : (layP v P.length z).toList = P ++ z.toList ++ S :=
  lay_go z.toList 0 v P O S P.length h (Nat.add_zero _).symm (by rw [Array.length_toList]; exact hO)
theorem atP_eq (i : Nat) : mergeAt' i = (do
    let t ← get
    let (some (u, m, pw), some (v, n, _)) := ((pendingOf t)[i]?, (pendingOf t)[i + 1]?) | unsupported "internal:list.sort.pending"
    set (setPending t (((pendingOf t).setIfInBounds i (u, m + n, pw)).eraseIdxIfInBounds (i + 1)))
    let some k ← gallopP false (← elem' (arrOf t) v) (arrOf t) u m 0 | return false
    let (u, m) := (u + k, m - k)
    if m == 0 then return true
    let some n ← gallopP true (← elem' (arrOf t) (u + m - 1)) (arrOf t) v n (n - 1) | return false
    if n == 0 then return true
    let x := (arrOf t).extract u v
    let y := (arrOf t).extract v (v + n)
    let z ← if m ≤ n then loP x y else hiP x y
    modify fun t => setArr t (layP (arrOf t) u z)
    return (failedOf (← get)).isNone) := rfl
end TS

set_option maxRecDepth 100000
namespace TS
open PySem PyProof.Rows
section
variable {prog : Program} {w : World} {A : Around} {E : Value → Shared → Prop} {s : Shared} {κ : PyProof.Rows.KeyKind} {st : SortSt}
theorem wpS_set {σ : Type} {M : Model} {t u : σ} {Q : PUnit → σ → Prop} (h : Q ⟨⟩ t) : wpS M A E s (set t : StateT σ Sem PUnit) Q u := by
  unfold wpS; rw [StateT.run_set]; exact wpAny_pure ⟨rfl, h⟩
/-- two rows put together between what was trimmed -/
theorem out_trim {X Y z : List Keyed} {k n : Nat} (hX : X.Pairwise (leP κ)) (hY : Y.Pairwise (leP κ)) (h : MOut κ (X.drop k) (Y.take n) z)
    (h1 : ∀ x ∈ X.take k, ∀ y ∈ Y, leP κ x y) (h2 : ∀ y ∈ Y.drop n, ∀ x ∈ X, leP κ x y) : MOut κ X Y (X.take k ++ z ++ Y.drop n) := by
  obtain ⟨hp, hs⟩ := h
  refine ⟨?_, ?_⟩
  · have e : X ++ Y = X.take k ++ (X.drop k ++ Y.take n) ++ Y.drop n := by
      rw [← List.append_assoc, List.take_append_drop, List.append_assoc, List.take_append_drop]
    rw [e]
    exact (hp.append_left _).append_right _
  · rw [List.pairwise_append, List.pairwise_append]
    have hXs := hX
    rw [← List.take_append_drop k X, List.pairwise_append] at hXs
    have hYs := hY
    rw [← List.take_append_drop n Y, List.pairwise_append] at hYs
    refine ⟨⟨hXs.1, hs, fun x hx u hu => ?_⟩, hYs.2.1, fun x hx y hy => ?_⟩
    · rcases List.mem_append.mp (hp.mem_iff.mp hu) with w | w
      · exact hXs.2.2 x hx u w
      · exact h1 x hx u (List.mem_of_mem_take w)
    · rcases List.mem_append.mp hx with w | w
      · exact h2 y hy x (List.mem_of_mem_take w)
      · rcases List.mem_append.mp (hp.mem_iff.mp w) with w' | w'
        · exact h2 y hy x (List.mem_of_mem_drop w')
        · exact hYs.2.2 x w' y hy
theorem at_mid {v : Array Keyed} {P X S : List Keyed} {t : Nat} (h : v.toList = P ++ X ++ S) (ht : t < X.length) : v[P.length + t]? = X[t]? := by
  have : v.toList[P.length + t]? = X[t]? := by
    rw [h, List.append_assoc, List.getElem?_append_right (by omega), show P.length + t - P.length = t by omega, List.getElem?_append_left ht]
  rw [← this]; simp
theorem extract_mid {v : Array Keyed} {P X S : List Keyed} (h : v.toList = P ++ X ++ S) : (v.extract P.length (P.length + X.length)).toList = X := by
  rw [Array.toList_extract, List.extract_eq_drop_take, h, List.append_assoc, List.drop_left, show P.length + X.length - P.length = X.length by omega, List.take_left]
theorem pw_idx {X : List Keyed} (hX : X.Pairwise (leP κ)) {t u : Nat} {x y : Keyed} (h : t ≤ u) (ex : X[t]? = some x) (ey : X[u]? = some y) : leP κ x y := by
  refine pw_from hX ex y ?_
  have e : (X.drop t)[u - t]? = some y := by rw [List.getElem?_drop, show t + (u - t) = u by omega]; exact ey
  exact List.mem_of_getElem? e
end
end TS

set_option maxRecDepth 100000
namespace TS
open PySem PyProof.Rows
section
variable {prog : Program} {w : World} {A : Around} {E : Value → Shared → Prop} {s : Shared} {κ : PyProof.Rows.KeyKind} {st : SortSt}
theorem wpS_at {i pw pw2 : Nat} {P X Y S : List Keyed} {Q : Bool → SortSt → Prop} (hO : κ.OneLt) (hk : kindOf st = oneType') (hf : failedOf st = none)
    (e1 : (pendingOf st)[i]? = some (P.length, X.length, pw)) (e2 : (pendingOf st)[i + 1]? = some (P.length + X.length, Y.length, pw2))
    (hv : (arrOf st).toList = P ++ X ++ Y ++ S) (hX : X.Pairwise (leP κ)) (hY : Y.Pairwise (leP κ)) (hx1 : 1 ≤ X.length) (hy1 : 1 ≤ Y.length) (hks : ∀ p ∈ (arrOf st).toList, HasK κ p)
    (q : ∀ st' Z, MOut κ X Y Z → (arrOf st').toList = P ++ Z ++ S → pendingOf st' = ((pendingOf st).setIfInBounds i (P.length, X.length + Y.length, pw)).eraseIdxIfInBounds (i + 1) → kindOf st' = oneType' → failedOf st' = none → Q true st') :
    wpS (model prog w) A E s (mergeAt' i) Q st := by
  have vX : (arrOf st).toList = P ++ X ++ (Y ++ S) := by rw [hv]; simp
  have vY : (arrOf st).toList = (P ++ X) ++ Y ++ S := hv
  have hsz : (arrOf st).size = P.length + X.length + Y.length + S.length := by
    have := congrArg List.length hv
    simpa [Nat.add_assoc] using this
  have kX : ∀ p ∈ X, HasK κ p := fun p hp => hks p (by rw [vX]; simp [hp])
  have kY : ∀ p ∈ Y, HasK κ p := fun p hp => hks p (by rw [vY]; simp [hp])
  have aX : ∀ t, t < X.length → (arrOf st)[P.length + t]? = X[t]? := fun t ht => at_mid vX ht
  have aY : ∀ t, t < Y.length → (arrOf st)[P.length + X.length + t]? = Y[t]? := fun t ht => by
    have := at_mid vY ht
    rwa [List.length_append] at this
  obtain ⟨y0, ey0⟩ : ∃ y, Y[0]? = some y := ⟨_, List.getElem?_eq_getElem (by omega)⟩
  obtain ⟨xl, exl⟩ : ∃ x, X[X.length - 1]? = some x := ⟨_, List.getElem?_eq_getElem (by omega)⟩
  rw [atP_eq]
  refine wpS_bind (wpS_get ?_)
  simp only [e1, e2]
  refine wpS_bind (wpS_set ?_)
  refine wpS_bind (wpS_elem (x := y0) (by have := aY 0 (by omega); rw [Nat.add_zero] at this; rw [this]; exact ey0) ?_)
  refine wpS_bind (gallop_right hO (show kindOf (setPending st _) = oneType' from hk) (by omega) (by omega) (kY y0 (List.mem_of_getElem? ey0)) hks
    (fun t u x y htu hu ex ey => pw_idx hX htu (by rw [← aX t (by omega)]; exact ex) (by rw [← aX u hu]; exact ey)) fun k hk1 hle hgt => ?_)
  dsimp only
  have hXle : ∀ x ∈ X.take k, ∀ y ∈ Y, leP κ x y := fun x hx y hy => by
    obtain ⟨t, ht⟩ := List.getElem?_of_mem hx
    have htk : t < k := by
      have := (List.getElem?_eq_some_iff.mp ht).1
      rw [List.length_take] at this; omega
    rw [List.getElem?_take_of_lt htk] at ht
    exact leP_trans (hle t x htk (by rw [aX t (by omega)]; exact ht)) (pw_from hY ey0 y (by simpa using hy))
  by_cases c1 : (X.length - k == 0) = true
  · rw [if_pos c1]
    have hkX : k = X.length := by have := beq_iff_eq.mp c1; omega
    refine wpS_pure (q _ (X ++ Y) ⟨List.Perm.refl _, ?_⟩ (by rw [hv]; simp) rfl hk hf)
    rw [List.pairwise_append]
    exact ⟨hX, hY, fun x hx y hy => hXle x (by rw [hkX, List.take_length]; exact hx) y hy⟩
  rw [if_neg c1]
  have c1' : X.length - k ≠ 0 := fun z => c1 (beq_iff_eq.mpr z)
  refine wpS_bind (wpS_elem (x := xl) (by
    rw [show P.length + k + (X.length - k) - 1 = P.length + (X.length - 1) by omega, aX _ (by omega)]; exact exl) ?_)
  refine wpS_bind (gallop_left hO (show kindOf (setPending st _) = oneType' from hk) (by omega) (by omega) (kX xl (List.mem_of_getElem? exl)) hks
    (fun t u x y htu hu ex ey => pw_idx hY htu (by rw [← aY t (by omega)]; exact ex) (by rw [← aY u hu]; exact ey)) fun n hn1 hlt hge => ?_)
  dsimp only
  have hXl : ∀ x ∈ X, leP κ x xl := fun x hx => by
    obtain ⟨t, ht⟩ := List.getElem?_of_mem hx
    exact pw_idx hX (by have := (List.getElem?_eq_some_iff.mp ht).1; omega) ht exl
  have hYge : ∀ y ∈ Y.drop n, ∀ x ∈ X, leP κ x y := fun y hy x hx => by
    obtain ⟨t, ht⟩ := List.getElem?_of_mem hy
    rw [List.getElem?_drop] at ht
    have htl := (List.getElem?_eq_some_iff.mp ht).1
    exact leP_trans (hXl x hx) (hge (n + t) y (by omega) (by omega) (by rw [aY _ (by omega)]; exact ht))
  by_cases c2 : (n == 0) = true
  · rw [if_pos c2]
    have hn0 : n = 0 := beq_iff_eq.mp c2
    refine wpS_pure (q _ (X ++ Y) ⟨List.Perm.refl _, ?_⟩ (by rw [hv]; simp) rfl hk hf)
    rw [List.pairwise_append]
    exact ⟨hX, hY, fun x hx y hy => hYge y (by rw [hn0, List.drop_zero]; exact hy) x hx⟩
  rw [if_neg c2]
  have c2' : n ≠ 0 := fun z => c2 (beq_iff_eq.mpr z)
  have exX : ((arrOf st).extract (P.length + k) (P.length + X.length)).toList = X.drop k := by
    have h : (arrOf st).toList = (P ++ X.take k) ++ X.drop k ++ (Y ++ S) := by rw [vX, List.append_assoc P (X.take k), List.take_append_drop]
    have := extract_mid h
    rwa [List.length_append, List.length_take, List.length_drop, show min k X.length = k by omega, show P.length + k + (X.length - k) = P.length + X.length by omega] at this
  have exY : ((arrOf st).extract (P.length + X.length) (P.length + X.length + n)).toList = Y.take n := by
    have h : (arrOf st).toList = (P ++ X) ++ Y.take n ++ (Y.drop n ++ S) := by rw [vY, List.append_assoc (P ++ X) (Y.take n), ← List.append_assoc (Y.take n), List.take_append_drop, ← List.append_assoc]
    have := extract_mid h
    rwa [List.length_append, List.length_take, show min n Y.length = n by omega] at this
  generalize hx : (arrOf st).extract (P.length + k) (P.length + X.length) = x at *
  generalize hy : (arrOf st).extract (P.length + X.length) (P.length + X.length + n) = y at *
  have sx : x.size = X.length - k := by rw [← Array.length_toList, exX, List.length_drop]
  have sy : y.size = n := by rw [← Array.length_toList, exY, List.length_take]; omega
  have ix : ∀ t, x[t]? = X[k + t]? := fun t => by rw [← Array.getElem?_toList, exX, List.getElem?_drop]
  have iy : ∀ t, t < n → y[t]? = Y[t]? := fun t ht => by rw [← Array.getElem?_toList, exY, List.getElem?_take_of_lt ht]
  have fin : ∀ (z : Array Keyed) (st' : SortSt), GSt (setPending st (((pendingOf st).setIfInBounds i (P.length, X.length + Y.length, pw)).eraseIdxIfInBounds (i + 1))) st' → MOut κ x.toList y.toList z.toList →
      wpS (model prog w) A E s (do
        modify fun t => setArr t (layP (arrOf t) (P.length + k) z)
        let t ← get
        pure (failedOf t).isNone : StateT SortSt Sem Bool) Q st' := by
    intro z st' g ho
    obtain ⟨gg, rfl⟩ := g
    refine wpS_bind (wpS_modify (wpS_bind (wpS_get ?_)))
    have hfl : (failedOf st).isNone = true := by rw [hf]; rfl
    show wpS _ _ _ _ (pure (failedOf st).isNone) Q _
    rw [hfl]
    rw [exX, exY] at ho
    have hzl : z.size = (X.drop k ++ Y.take n).length := by rw [← Array.length_toList]; exact ho.1.length_eq
    have h : (arrOf st).toList = (P ++ X.take k) ++ (X.drop k ++ Y.take n) ++ (Y.drop n ++ S) := by
      rw [hv]
      have e3 : X = X.take k ++ X.drop k := (List.take_append_drop k X).symm
      have e4 : Y = Y.take n ++ Y.drop n := (List.take_append_drop n Y).symm
      conv => lhs; rw [e3, e4]
      simp only [List.append_assoc]
    have hl := lay_list h hzl.symm
    rw [List.length_append, List.length_take, show min k X.length = k by omega] at hl
    refine wpS_pure (q _ (X.take k ++ z.toList ++ Y.drop n) (out_trim hX hY ho hXle hYge) ?_ rfl hk hf)
    show (layP (arrOf st) (P.length + k) z).toList = _
    rw [hl]
    simp only [List.append_assoc]
  have hXs : (X.drop k).Pairwise (leP κ) := hX.drop
  have hYs : (Y.take n).Pairwise (leP κ) := hY.take
  have ka : ∀ p ∈ x.toList, HasK κ p := fun p hp => kX p (List.mem_of_mem_drop (by rw [← exX]; exact hp))
  have kb : ∀ p ∈ y.toList, HasK κ p := fun p hp => kY p (List.mem_of_mem_take (by rw [← exY]; exact hp))
  have lst : ∀ p ∈ y.toList, leP κ p xl := fun p hp => by
    rw [exY] at hp
    obtain ⟨t, ht⟩ := List.getElem?_of_mem hp
    have htn : t < n := by
      have := (List.getElem?_eq_some_iff.mp ht).1
      rw [List.length_take] at this; omega
    rw [List.getElem?_take_of_lt htn] at ht
    exact KeyOrd.kle_of_klt (hlt t p htn (by rw [aY t (by omega)]; exact ht))
  have fst : ∀ p ∈ x.toList, leP κ y0 p := fun p hp => by
    rw [exX] at hp
    obtain ⟨t, ht⟩ := List.getElem?_of_mem hp
    rw [List.getElem?_drop] at ht
    have htl := (List.getElem?_eq_some_iff.mp ht).1
    exact KeyOrd.kle_of_klt (hgt (k + t) p (by omega) htl (by rw [aX _ htl]; exact ht))
  have lastx : ∀ p, x[x.size - 1]? = some p → p = xl := fun p hp => by
    rw [ix, sx, show k + (X.length - k - 1) = X.length - 1 by omega, exl] at hp
    exact (Option.some.inj hp).symm
  have firsty : ∀ p, y[0]? = some p → p = y0 := fun p hp => by
    rw [iy 0 (by omega), ey0] at hp
    exact (Option.some.inj hp).symm
  have memx : ∀ {t : Nat} {p : Keyed}, x[t]? = some p → p ∈ x.toList := fun h => List.mem_of_getElem? (arr_at h)
  have memy : ∀ {t : Nat} {p : Keyed}, y[t]? = some p → p ∈ y.toList := fun h => List.mem_of_getElem? (arr_at h)
  by_cases c3 : X.length - k ≤ n
  · rw [if_pos c3]
    refine wpS_bind (wpS_lo (κ := κ) ⟨hO, ka, kb, by rw [exX]; exact hXs, by rw [exY]; exact hYs, fun p hp u hu => by rw [lastx u hu]; exact lst p hp⟩ hk (by omega) (by omega) (fun p u hp hu => by rw [firsty p hp]; exact fst u (memx hu)) fun z st' g ho => fin z st' g ho)
  · rw [if_neg c3]
    refine wpS_bind (wpS_hi (κ := κ) ⟨hO, ka, kb, by rw [exX]; exact hXs, by rw [exY]; exact hYs, fun p hp u hu => by rw [firsty u hu]; exact fst p hp⟩ hk (by omega) (by omega) (fun p u hp hu => by rw [lastx u hu]; exact lst p (memy hp)) fun z st' g ho => fin z st' g ho)
end
end TS

set_option maxRecDepth 100000
namespace TS
open PySem PyProof.Rows
/-! ### a stretch that begins at `b` -/
structure LB (a₀ : Array Keyed) (p₀ : Array (Nat × Nat × Nat)) (b : Nat) (st : SortSt) : Prop where
  prm : (arrOf st).Perm a₀
  knd : kindOf st = oneType'
  fld : failedOf st = none
  pnd : pendingOf st = p₀
  low : ∀ k, k < b → (arrOf st)[k]? = a₀[k]?
noncomputable def ku (κ : PyProof.Rows.KeyKind) (b : Nat) (st : SortSt) (i : Nat) : κ.α := KK κ (arrOf st) (b + i)
noncomputable def upTo (κ : PyProof.Rows.KeyKind) (b : Nat) (st : SortSt) (n : Nat) : Prop := ∀ i j, i ≤ j → j < n → κ.kle (ku κ b st i) (ku κ b st j)
noncomputable def dnTo (κ : PyProof.Rows.KeyKind) (b : Nat) (st : SortSt) (n : Nat) : Prop := ∀ i j, i ≤ j → j < n → κ.kle (ku κ b st j) (ku κ b st i)
section
variable {prog : Program} {w : World} {A : Around} {E : Value → Shared → Prop} {s : Shared} {κ : PyProof.Rows.KeyKind} {a₀ : Array Keyed} {p₀ : Array (Nat × Nat × Nat)} {b : Nat} {st : SortSt}
theorem LB.siz (h : LB a₀ p₀ b st) : (arrOf st).size = a₀.size := h.prm.size_eq
theorem LB.put (h : LB a₀ p₀ b st) {xs : Array Keyed} (hp : xs.Perm (arrOf st)) (hl : ∀ k, k < b → xs[k]? = (arrOf st)[k]?) : LB a₀ p₀ b (setArr st xs) :=
  ⟨hp.trans h.prm, h.knd, h.fld, h.pnd, fun k hk => (hl k hk).trans (h.low k hk)⟩
theorem LB.get (h : LB a₀ p₀ b st) (hk : ∀ p ∈ a₀.toList, HasK κ p) {i : Nat} (hi : i < a₀.size) : ∃ p, (arrOf st)[i]? = some p ∧ HasK κ p ∧ KK κ (arrOf st) i = kyP κ p := by
  have hi' : i < (arrOf st).size := by rw [h.siz]; exact hi
  have e := getElem?_pos (arrOf st) i hi'
  refine ⟨(arrOf st)[i], e, hk _ ((Array.perm_iff_toList_perm.mp h.prm).mem_iff.mp (by simp)), ?_⟩
  unfold KK kyP; rw [e]
theorem LB.lt {i j : Nat} {Q : Option Bool → SortSt → Prop} (h : LB a₀ p₀ b st) (hO : κ.OneLt) (hk : ∀ p ∈ a₀.toList, HasK κ p) (hi : b + i < a₀.size) (hj : b + j < a₀.size)
    (q : Q (some (κ.blt (ku κ b st i) (ku κ b st j))) st) : wpS (model prog w) A E s (ltAt' (b + i) (b + j)) Q st := by
  obtain ⟨x, e1, k1, z1⟩ := h.get hk hi
  obtain ⟨y, e2, k2, z2⟩ := h.get hk hj
  unfold ku at q
  rw [z1, z2] at q
  exact wpS_ltAtK hO h.knd (x := x.1) (p := x.2) (y := y.1) (q := y.2) e1 e2 k1.eq k2.eq q
theorem LB.bub (h : LB a₀ p₀ b st) {k d : Nat} (hk : b + k < a₀.size) (hd : d ≤ k) : LB a₀ p₀ b (setArr st (bubble (arrOf st) (b + k) d)) :=
  h.put (bubble_perm _ _ _) fun t ht => by
    rw [getElem?_bubble (by rw [h.siz]; exact hk) d (by omega), if_neg (by omega), if_neg (by omega)]
theorem ku_bub (h : LB a₀ p₀ b st) {k d : Nat} (hk : b + k < a₀.size) (hd : d ≤ k) (i : Nat) :
    ku κ b (setArr st (bubble (arrOf st) (b + k) d)) i = if i = k - d then ku κ b st k else if k - d < i ∧ i ≤ k then ku κ b st (i - 1) else ku κ b st i := by
  show KK κ (bubble (arrOf st) (b + k) d) (b + i) = _
  rw [KK_bubble (by rw [h.siz]; exact hk) (by omega)]
  by_cases c1 : i = k - d
  · rw [if_pos c1, if_pos (by omega)]; rfl
  · rw [if_neg c1, if_neg (by omega)]
    by_cases c2 : k - d < i ∧ i ≤ k
    · rw [if_pos c2, if_pos (by omega)]
      show _ = KK κ (arrOf st) (b + (i - 1))
      congr 1; omega
    · rw [if_neg c2, if_neg (by omega)]; rfl
theorem LB.mir (h : LB a₀ p₀ b st) {i j : Nat} (hj : b + j ≤ a₀.size) : LB a₀ p₀ b (setArr st (mirror (arrOf st) (b + i) (b + j) ((b + j - (b + i)) / 2))) :=
  h.put (mirror_perm _ _ _ _) fun t ht => by
    rw [getElem?_mirror_all (by rw [h.siz]; exact hj), if_neg (by omega)]
theorem ku_mir (h : LB a₀ p₀ b st) {i j : Nat} (hj : b + j ≤ a₀.size) (t : Nat) :
    ku κ b (setArr st (mirror (arrOf st) (b + i) (b + j) ((b + j - (b + i)) / 2))) t = if i ≤ t ∧ t < j then ku κ b st (i + j - 1 - t) else ku κ b st t := by
  show KK κ (mirror (arrOf st) (b + i) (b + j) ((b + j - (b + i)) / 2)) (b + t) = _
  rw [KK_mirror (by rw [h.siz]; exact hj)]
  by_cases c : i ≤ t ∧ t < j
  · rw [if_pos c, if_pos (by omega)]
    show _ = KK κ (arrOf st) (b + (i + j - 1 - t))
    congr 1; omega
  · rw [if_neg c, if_neg (by omega)]; rfl
theorem ku_mir_eq (h : LB a₀ p₀ b st) {i j : Nat} (hj : b + j ≤ a₀.size) (he : ∀ t, i ≤ t → t < j → ku κ b st t = ku κ b st (j - 1)) (t : Nat) :
    ku κ b (setArr st (mirror (arrOf st) (b + i) (b + j) ((b + j - (b + i)) / 2))) t = ku κ b st t := by
  rw [ku_mir h hj]
  split
  · rw [he _ (by omega) (by omega), he t (by omega) (by omega)]
  · rfl
theorem wpS_bin {n ok : Nat} {Q : Bool → SortSt → Prop} (hO : κ.OneLt) (hk : ∀ p ∈ a₀.toList, HasK κ p) (hn : b + n ≤ a₀.size) (hok : ok ≤ n) (hB : LB a₀ p₀ b st) (hs : upTo κ b st ok)
    (q : ∀ st', LB a₀ p₀ b st' → upTo κ b st' n → Q true st') : wpS (model prog w) A E s (binarySort' b n ok) Q st := by
  rw [binarySort'_eq]
  refine wpS_bind (wpS_mono (wpS_forRange (I := fun k c u => c = (none, ()) ∧ LB a₀ p₀ b u ∧ upTo κ b u (min k n))
    (Q := fun c u => c = (none, ()) ∧ LB a₀ p₀ b u ∧ upTo κ b u n) ?_ ?_ ?_) ?_)
  · rintro k c u hak hkn ⟨rfl, hB', hs'⟩
    rw [show min k n = k by omega] at hs'
    refine wpS_bind (wpS_mono (wpS_forRange (I := fun x c u' => u' = u ∧ ∃ l r, c = (none, l, r) ∧ l ≤ r ∧ r ≤ k ∧ r - l ≤ k - x ∧
        (∀ i, i < l → κ.kle (ku κ b u i) (ku κ b u k)) ∧ (∀ i, r ≤ i → i < k → κ.klt (ku κ b u k) (ku κ b u i)))
      (Q := fun c u' => u' = u ∧ ∃ l r, c = (none, l, r) ∧ l ≤ k ∧
        (∀ i, i < l → κ.kle (ku κ b u i) (ku κ b u k)) ∧ (∀ i, l ≤ i → i < k → κ.klt (ku κ b u k) (ku κ b u i))) ?_ ?_ ?_) ?_)
    · rintro x c u' _ hxk ⟨rfl, l, r, rfl, hlr, hrk, hm, hlo, hhi⟩
      dsimp only
      by_cases hge : l ≥ r
      · rw [if_pos hge]
        have : l = r := by omega
        subst this
        exact wpS_pure ⟨rfl, l, l, rfl, hrk, hlo, hhi⟩
      · rw [if_neg hge]
        refine wpS_bind (hB'.lt hO hk (by omega) (by omega) ?_)
        cases hc : κ.blt (ku κ b u' k) (ku κ b u' ((l + r) / 2))
        case true =>
          dsimp only
          rw [if_pos rfl]
          exact wpS_pure ⟨rfl, l, (l + r) / 2, rfl, by omega, by omega, by omega, hlo, fun i h1 h2 => KeyOrd.klt_of_klt_of_kle hc (hs' _ _ h1 h2)⟩
        case false =>
          dsimp only
          rw [if_neg (by simp)]
          exact wpS_pure ⟨rfl, (l + r) / 2 + 1, r, rfl, by omega, by omega, by omega, fun i h1 => KeyOrd.kle_trans (hs' i ((l + r) / 2) (by omega) (by omega)) (show κ.kle _ _ from hc), hhi⟩
    · rintro c u' ⟨rfl, l, r, rfl, hlr, hrk, hm, hlo, hhi⟩
      have : l = r := by omega
      subst this
      exact ⟨rfl, l, l, rfl, hrk, hlo, hhi⟩
    · exact ⟨rfl, 0, k, rfl, by omega, by omega, by omega, fun i hi => by omega, fun i h1 h2 => by omega⟩
    · rintro c u' ⟨rfl, l, r, rfl, hlk, hlo, hhi⟩
      show wpS _ _ _ _ (do moveDown' (b + k) (b + l); pure (ForInStep.yield (none, ()))) _ _
      rw [moveDown'_eq, show b + k - (b + l) = k - l by omega]
      refine wpS_bind (wpS_modify (wpS_pure ⟨rfl, hB'.bub (by omega) (by omega), ?_⟩))
      rw [show min (k + 1) n = k + 1 by omega]
      intro i j hij hj
      show κ.kle (ku κ b (setArr u' (bubble (arrOf u') (b + k) (k - l))) i) (ku κ b (setArr u' (bubble (arrOf u') (b + k) (k - l))) j)
      rw [ku_bub hB' (by omega) (by omega), ku_bub hB' (by omega) (by omega), show k - (k - l) = l by omega]
      repeat' split
      all_goals first
        | (exfalso; omega)
        | exact KeyOrd.kle_refl _
        | exact hlo _ (by omega)
        | exact KeyOrd.kle_of_klt (hhi _ (by omega) (by omega))
        | exact hs' _ _ (by omega) (by omega)
  · rintro c u ⟨hc, hB', hs'⟩
    refine ⟨hc, hB', ?_⟩
    rwa [show min (max (max ok 1) n) n = n by omega] at hs'
  · refine ⟨rfl, hB, fun i j hij hj => ?_⟩
    by_cases h1 : ok = 0
    · have : i = j := by omega
      subst this; exact KeyOrd.kle_refl _
    · exact hs i j hij (by omega)
  · rintro c u ⟨rfl, hB', hs'⟩
    exact wpS_pure (q u hB' hs')
end
end TS

set_option maxRecDepth 100000
namespace TS
open PySem PyProof.Rows
/-! ### the run that begins at `b`, in own words -/
noncomputable def upL (b x y : Nat) : StateT SortSt Sem (Option (Option Nat) × Nat) :=
  forIn [x:y] ((none, x) : Option (Option Nat) × Nat) fun _ c => do
    match ← ltAt' (b + c.2) (b + c.2 - 1) with
    | some q => if q = true then pure (.done (none, c.2)) else pure (.yield (none, c.2 + 1))
    | _ => pure (.done (some none, c.2))
noncomputable def endL (b n y : Nat) : StateT SortSt Sem (Option Nat) := do
  reverseSlice' b (b + n)
  let c ← upL b n y
  match c.1 with
  | some r => pure r
  | none => pure (some c.2)
noncomputable def dnL (b x y : Nat) : StateT SortSt Sem (Option (Option Nat) × Nat × Nat) :=
  forIn [x:y] ((none, x, 0) : Option (Option Nat) × Nat × Nat) fun _ c => do
    match ← ltAt' (b + c.2.1) (b + c.2.1 - 1) with
    | some q =>
      if q = true then
        if c.2.2 > 0 then do
          reverseSlice' (b + c.2.1 - (c.2.2 + 1)) (b + c.2.1)
          pure (.yield (none, c.2.1 + 1, 0))
        else pure (.yield (none, c.2.1 + 1, 0))
      else do
        match ← ltAt' (b + c.2.1 - 1) (b + c.2.1) with
        | some p => if p = true then pure (.done (none, c.2.1, c.2.2)) else pure (.yield (none, c.2.1 + 1, c.2.2 + 1))
        | _ => pure (.done (some none, c.2.1, c.2.2))
    | _ => pure (.done (some none, c.2.1, c.2.2))
noncomputable def dnP (b n y : Nat) : StateT SortSt Sem (Option Nat) := do
  liftM (rule "list.sort.descending-run")
  let c ← dnL b (n + 1) y
  match c.1 with
  | some r => pure r
  | none =>
    if c.2.2 > 0 then do
      reverseSlice' (b + c.2.1 - (c.2.2 + 1)) (b + c.2.1)
      endL b c.2.1 y
    else endL b c.2.1 y
noncomputable def runP (b y : Nat) : StateT SortSt Sem (Option Nat) := do
  let c ← upL b 1 y
  match c.1 with
  | some r => pure r
  | none =>
    if (c.2 == y) = true then pure (some c.2)
    else if c.2 > 1 then do
      match ← ltAt' b (b + c.2 - 1) with
      | some q => if q = true then pure (some c.2) else do
          reverseSlice' b (b + c.2)
          dnP b c.2 y
      | _ => pure none
    else dnP b c.2 y
theorem bd {α β : Type} {x y : StateT SortSt Sem α} {f g : α → StateT SortSt Sem β} (h : x = y) (hf : ∀ c, f c = g c) : (x >>= f) = (y >>= g) := by
  subst h; rw [funext hf]
theorem runP_eq (b y : Nat) : countRun' b y = runP b y := by
  have tl : ∀ (n : Nat) (f : Option (Option Nat) × Nat → StateT SortSt Sem (Option Nat)), (∀ c, f c = match c.1 with | some r => pure r | none => pure (some c.2)) → (reverseSlice' b (b + n) >>= fun _ => upL b n y >>= f) = endL b n y :=
    fun n f hf => bd rfl fun _ => bd rfl hf
  rw [countRun'_eq]
  refine bd rfl fun c => ?_
  obtain ⟨r, n⟩ := c
  cases r with
  | some r => rfl
  | none =>
    dsimp only
    split
    · rfl
    · split
      · refine bd rfl fun x => ?_
        cases x with
        | none => rfl
        | some z =>
          dsimp only
          split
          · rfl
          · refine bd rfl fun _ => bd rfl fun _ => bd rfl fun d => ?_
            obtain ⟨r, m, k⟩ := d
            cases r with
            | some r => rfl
            | none =>
              dsimp only
              split
              · exact bd rfl fun _ => tl _ _ fun c => by obtain ⟨r, n⟩ := c; cases r <;> rfl
              · exact tl _ _ fun c => by obtain ⟨r, n⟩ := c; cases r <;> rfl
      · refine bd rfl fun _ => bd rfl fun d => ?_
        obtain ⟨r, m, k⟩ := d
        cases r with
        | some r => rfl
        | none =>
          dsimp only
          split
          · exact bd rfl fun _ => tl _ _ fun c => by obtain ⟨r, n⟩ := c; cases r <;> rfl
          · exact tl _ _ fun c => by obtain ⟨r, n⟩ := c; cases r <;> rfl
end TS

set_option maxRecDepth 100000
namespace TS
open PySem PyProof.Rows
section
variable {prog : Program} {w : World} {A : Around} {E : Value → Shared → Prop} {s : Shared} {κ : PyProof.Rows.KeyKind} {a₀ : Array Keyed} {p₀ : Array (Nat × Nat × Nat)} {b : Nat} {st : SortSt}
theorem upTo_more {x : Nat} (hs : upTo κ b st x) (h : κ.kle (ku κ b st (x - 1)) (ku κ b st x)) : upTo κ b st (x + 1) := fun i j hij hj => by
  by_cases c : j < x
  · exact hs i j hij c
  · obtain rfl : j = x := by omega
    by_cases c2 : i = j
    · rw [c2]; exact KeyOrd.kle_refl _
    · exact KeyOrd.kle_trans (hs i (j - 1) (by omega) (by omega)) h
theorem dnTo_more {x : Nat} (hs : dnTo κ b st x) (h : κ.kle (ku κ b st x) (ku κ b st (x - 1))) : dnTo κ b st (x + 1) := fun i j hij hj => by
  by_cases c : j < x
  · exact hs i j hij c
  · obtain rfl : j = x := by omega
    by_cases c2 : i = j
    · rw [c2]; exact KeyOrd.kle_refl _
    · exact KeyOrd.kle_trans h (hs i (j - 1) (by omega) (by omega))
theorem upTo_one : upTo κ b st 1 := fun i j hij hj => by
  rw [show i = j by omega]; exact KeyOrd.kle_refl _
theorem dnTo_one : dnTo κ b st 1 := fun i j hij hj => by
  rw [show i = j by omega]; exact KeyOrd.kle_refl _
theorem dnTo_same {st' : SortSt} {x : Nat} (h : ∀ t, ku κ b st' t = ku κ b st t) (hs : dnTo κ b st x) : dnTo κ b st' x := fun i j hij hj => by
  rw [h, h]; exact hs i j hij hj
theorem wpS_upL {x y : Nat} {Q : Option (Option Nat) × Nat → SortSt → Prop} (hO : κ.OneLt) (hk : ∀ p ∈ a₀.toList, HasK κ p) (hy : b + y ≤ a₀.size) (hx1 : 1 ≤ x) (hxy : x ≤ y) (hB : LB a₀ p₀ b st) (hs : upTo κ b st x)
    (q : ∀ n, x ≤ n → n ≤ y → upTo κ b st n → (n = y ∨ κ.klt (ku κ b st n) (ku κ b st (n - 1))) → Q (none, n) st) : wpS (model prog w) A E s (upL b x y) Q st := by
  unfold upL
  refine wpS_forRange (I := fun t c u => u = st ∧ c = (none, t) ∧ upTo κ b st t) ?_ ?_ ⟨rfl, rfl, hs⟩
  · rintro t c u h1 h2 ⟨rfl, rfl, h3⟩
    dsimp only
    rw [show b + t - 1 = b + (t - 1) by omega]
    refine wpS_bind (hB.lt hO hk (by omega) (by omega) ?_)
    cases hc : κ.blt (ku κ b u t) (ku κ b u (t - 1))
    case true =>
      dsimp only
      rw [if_pos rfl]
      exact wpS_pure (q t h1 (by omega) h3 (.inr hc))
    case false =>
      dsimp only
      rw [if_neg (by simp)]
      exact wpS_pure ⟨rfl, rfl, upTo_more h3 hc⟩
  · rintro c u ⟨rfl, rfl, h3⟩
    rw [show max x y = y by omega] at h3 ⊢
    exact q y hxy (Nat.le_refl _) h3 (.inl rfl)
theorem wpS_rev {i j : Nat} {Q : Unit → SortSt → Prop} (hj : b + j ≤ a₀.size) (hB : LB a₀ p₀ b st)
    (q : ∀ st', LB a₀ p₀ b st' → (∀ t, ku κ b st' t = if i ≤ t ∧ t < j then ku κ b st (i + j - 1 - t) else ku κ b st t) → Q () st') : wpS (model prog w) A E s (reverseSlice' (b + i) (b + j)) Q st :=
  wpS_reverse (q _ (hB.mir hj) fun t => ku_mir hB hj t)
theorem wpS_revE {i j : Nat} {Q : Unit → SortSt → Prop} (hj : b + j ≤ a₀.size) (hB : LB a₀ p₀ b st) (he : ∀ t, i ≤ t → t < j → ku κ b st t = ku κ b st (j - 1))
    (q : ∀ st', LB a₀ p₀ b st' → (∀ t, ku κ b st' t = ku κ b st t) → Q () st') : wpS (model prog w) A E s (reverseSlice' (b + i) (b + j)) Q st :=
  wpS_reverse (q _ (hB.mir hj) fun t => ku_mir_eq hB hj he t)
theorem wpS_endL {n y : Nat} {Q : Option Nat → SortSt → Prop} (hO : κ.OneLt) (hk : ∀ p ∈ a₀.toList, HasK κ p) (hy : b + y ≤ a₀.size) (h1 : 1 ≤ n) (hn : n ≤ y) (hB : LB a₀ p₀ b st) (hs : dnTo κ b st n)
    (q : ∀ m st', LB a₀ p₀ b st' → 1 ≤ m → m ≤ y → upTo κ b st' m → Q (some m) st') : wpS (model prog w) A E s (endL b n y) Q st := by
  unfold endL
  refine wpS_bind (wpS_rev (κ := κ) (i := 0) (by omega) hB fun u hB' hu => ?_)
  refine wpS_bind (wpS_upL hO hk hy h1 hn hB' (fun i j hij hj => ?_) fun m m1 m2 hm _ => wpS_pure (q m u hB' (by omega) m2 hm))
  rw [hu, hu, if_pos (by omega), if_pos (by omega)]
  exact hs _ _ (by omega) (by omega)
theorem wpS_dnL {x y : Nat} {Q : Option (Option Nat) × Nat × Nat → SortSt → Prop} (hO : κ.OneLt) (hk : ∀ p ∈ a₀.toList, HasK κ p) (hy : b + y ≤ a₀.size) (hx1 : 1 ≤ x) (hxy : x ≤ y) (hB : LB a₀ p₀ b st) (hs : dnTo κ b st x)
    (q : ∀ n k u, LB a₀ p₀ b u → x ≤ n → n ≤ y → dnTo κ b u n → k + 1 ≤ n → (∀ i, n - (k + 1) ≤ i → i < n → ku κ b u i = ku κ b u (n - 1)) → Q (none, n, k) u) : wpS (model prog w) A E s (dnL b x y) Q st := by
  unfold dnL
  refine wpS_forRange (I := fun t c u => ∃ k, c = (none, t, k) ∧ LB a₀ p₀ b u ∧ dnTo κ b u t ∧ k + 1 ≤ t ∧ ∀ i, t - (k + 1) ≤ i → i < t → ku κ b u i = ku κ b u (t - 1)) ?_ ?_ ⟨0, rfl, hB, hs, by omega, fun i i1 i2 => by rw [show i = x - 1 by omega]⟩
  · rintro t c u h1 h2 ⟨k, rfl, hB', hs', hk1, he⟩
    dsimp only
    rw [show b + t - 1 = b + (t - 1) by omega, show b + t - (k + 1) = b + (t - (k + 1)) by omega]
    refine wpS_bind (hB'.lt hO hk (by omega) (by omega) ?_)
    cases hc : κ.blt (ku κ b u t) (ku κ b u (t - 1))
    case true =>
      dsimp only
      rw [if_pos rfl]
      have hd := dnTo_more hs' (KeyOrd.kle_of_klt hc)
      by_cases hk0 : k > 0
      · rw [if_pos hk0]
        exact wpS_bind (wpS_revE (by omega) hB' he fun u' hB2 hu => wpS_pure ⟨0, rfl, hB2, dnTo_same hu hd, by omega, fun i i1 i2 => by rw [show i = t + 1 - 1 by omega]⟩)
      · rw [if_neg hk0]
        exact wpS_pure ⟨0, rfl, hB', hd, by omega, fun i i1 i2 => by rw [show i = t + 1 - 1 by omega]⟩
    case false =>
      dsimp only
      rw [if_neg (by simp)]
      refine wpS_bind (hB'.lt hO hk (by omega) (by omega) ?_)
      cases hc2 : κ.blt (ku κ b u (t - 1)) (ku κ b u t)
      case true =>
        dsimp only
        rw [if_pos rfl]
        exact wpS_pure (q t k u hB' h1 (by omega) hs' hk1 he)
      case false =>
        dsimp only
        rw [if_neg (by simp)]
        have ht : ku κ b u t = ku κ b u (t - 1) := KeyOrd.kle_antisymm hc2 hc
        refine wpS_pure ⟨k + 1, rfl, hB', dnTo_more hs' hc2, by omega, fun i i1 i2 => ?_⟩
        rw [show t + 1 - 1 = t by omega]
        by_cases z : i = t
        · rw [z]
        · rw [ht]; exact he i (by omega) (by omega)
  · rintro c u ⟨k, rfl, hB', hs', hk1, he⟩
    rw [show max x y = y by omega] at hs' hk1 he ⊢
    exact q y k u hB' hxy (Nat.le_refl _) hs' hk1 he
theorem wpS_dnP {n y : Nat} {Q : Option Nat → SortSt → Prop} (hO : κ.OneLt) (hk : ∀ p ∈ a₀.toList, HasK κ p) (hy : b + y ≤ a₀.size) (hn : n + 1 ≤ y) (hB : LB a₀ p₀ b st) (hs : dnTo κ b st (n + 1))
    (q : ∀ m st', LB a₀ p₀ b st' → 1 ≤ m → m ≤ y → upTo κ b st' m → Q (some m) st') : wpS (model prog w) A E s (dnP b n y) Q st := by
  unfold dnP
  refine wpS_bind (wpS_lift (wpAny_rule ⟨rfl, ?_⟩))
  refine wpS_bind (wpS_dnL hO hk hy (by omega) hn hB hs fun m k u hB' m1 m2 hs' hk1 he => ?_)
  dsimp only
  rw [show b + m - (k + 1) = b + (m - (k + 1)) by omega]
  by_cases hk0 : k > 0
  · rw [if_pos hk0]
    exact wpS_bind (wpS_revE (by omega) hB' he fun u' hB2 hu => wpS_endL hO hk hy (by omega) m2 hB2 (dnTo_same hu hs') q)
  · rw [if_neg hk0]
    exact wpS_endL hO hk hy (by omega) m2 hB' hs' q
theorem wpS_run {y : Nat} {Q : Option Nat → SortSt → Prop} (hO : κ.OneLt) (hk : ∀ p ∈ a₀.toList, HasK κ p) (hy : b + y ≤ a₀.size) (h1 : 1 ≤ y) (hB : LB a₀ p₀ b st)
    (q : ∀ m st', LB a₀ p₀ b st' → 1 ≤ m → m ≤ y → upTo κ b st' m → Q (some m) st') : wpS (model prog w) A E s (countRun' b y) Q st := by
  rw [runP_eq]
  unfold runP
  refine wpS_bind (wpS_upL hO hk hy (Nat.le_refl 1) h1 hB upTo_one fun n n1 n2 hs hor => ?_)
  dsimp only
  by_cases c : n = y
  · rw [if_pos (by simpa using c)]
    exact wpS_pure (q n st hB n1 n2 hs)
  rw [if_neg (by simpa using c)]
  have hlt := hor.resolve_left c
  by_cases c2 : n > 1
  · rw [if_pos c2, show b + n - 1 = b + (n - 1) by omega]
    refine wpS_bind (LB.lt (i := 0) hB hO hk (by omega) (by omega) ?_)
    cases hr : κ.blt (ku κ b st 0) (ku κ b st (n - 1))
    case true =>
      dsimp only
      rw [if_pos rfl]
      exact wpS_pure (q n st hB n1 n2 hs)
    case false =>
      dsimp only
      rw [if_neg (by simp)]
      have all : ∀ t, 0 ≤ t → t < n → ku κ b st t = ku κ b st (n - 1) := fun t _ ht =>
        KeyOrd.kle_antisymm (hs t (n - 1) (by omega) (by omega)) (KeyOrd.kle_trans hr (hs 0 t (by omega) ht))
      refine wpS_bind (wpS_revE (κ := κ) (i := 0) (by omega) hB all fun u hB' hu => wpS_dnP hO hk hy (by omega) hB' ?_ q)
      refine dnTo_same hu (dnTo_more (fun i j hij hj => ?_) (KeyOrd.kle_of_klt hlt))
      rw [all i (by omega) (by omega), all j (by omega) hj]; exact KeyOrd.kle_refl _
  · rw [if_neg c2]
    obtain rfl : n = 1 := by omega
    exact wpS_dnP hO hk hy (by omega) hB (dnTo_more dnTo_one (KeyOrd.kle_of_klt hlt)) q
end
end TS

set_option maxRecDepth 100000
namespace TS
open PySem PyProof.Rows
/-! ### the runs that wait, side by side -/
noncomputable def lyt : Nat → List (List Keyed) → List (Nat × Nat)
  | _, [] => []
  | o, R :: Rs => (o, R.length) :: lyt (o + R.length) Rs
theorem lyt_len : ∀ (o : Nat) (Rs : List (List Keyed)), (lyt o Rs).length = Rs.length
  | _, [] => rfl
  | o, R :: Rs => congrArg (· + 1) (lyt_len _ Rs)
theorem lyt_app : ∀ (o : Nat) (A B : List (List Keyed)), lyt o (A ++ B) = lyt o A ++ lyt (o + A.flatten.length) B
  | o, [], B => by simp [lyt]
  | o, R :: A, B => by
    show (o, R.length) :: lyt (o + R.length) (A ++ B) = (o, R.length) :: (lyt (o + R.length) A ++ _)
    rw [lyt_app _ A B, List.flatten_cons, List.length_append, Nat.add_assoc]
noncomputable abbrev f2 (t : Nat × Nat × Nat) : Nat × Nat := (t.1, t.2.1)
structure RI (κ : PyProof.Rows.KeyKind) (a₀ : Array Keyed) (st : SortSt) (Rs : List (List Keyed)) (S : List Keyed) : Prop where
  prm : (arrOf st).Perm a₀
  knd : kindOf st = oneType'
  fld : failedOf st = none
  arr : (arrOf st).toList = Rs.flatten ++ S
  pnd : (pendingOf st).toList.map f2 = lyt 0 Rs
  srt : ∀ R ∈ Rs, R.Pairwise (leP κ) ∧ 1 ≤ R.length
theorem runs_len : ∀ (Rs : List (List Keyed)), (∀ R ∈ Rs, 1 ≤ R.length) → Rs.length ≤ Rs.flatten.length
  | [], _ => Nat.le_refl _
  | R :: Rs, h => by
    have h1 := h R List.mem_cons_self
    have h2 := runs_len Rs fun X hX => h X (List.mem_cons_of_mem _ hX)
    simp only [List.flatten_cons, List.length_append, List.length_cons]; omega
section
variable {prog : Program} {w : World} {A : Around} {E : Value → Shared → Prop} {s : Shared} {κ : PyProof.Rows.KeyKind} {a₀ : Array Keyed} {st : SortSt} {Rs : List (List Keyed)} {S : List Keyed}
theorem RI.psz (h : RI κ a₀ st Rs S) : (pendingOf st).size = Rs.length := by
  have := congrArg List.length h.pnd
  rw [List.length_map, Array.length_toList, lyt_len] at this
  exact this
theorem RI.keys (h : RI κ a₀ st Rs S) (hk : ∀ p ∈ a₀.toList, HasK κ p) : ∀ p ∈ (arrOf st).toList, HasK κ p := fun p hp =>
  hk p ((Array.perm_iff_toList_perm.mp h.prm).mem_iff.mp hp)
theorem split2 {α : Type} : ∀ (l : List α) (i : Nat), i + 1 < l.length → ∃ A X Y B, l = A ++ X :: Y :: B ∧ A.length = i
  | x :: y :: l, 0, _ => ⟨[], x, y, l, rfl, rfl⟩
  | x :: l, i + 1, h => by
    obtain ⟨A, X, Y, B, e, hl⟩ := split2 l i (by simp at h; omega)
    exact ⟨x :: A, X, Y, B, by rw [e]; rfl, by simp [hl]⟩
theorem wpS_mrg {i : Nat} {Q : Bool → SortSt → Prop} (hO : κ.OneLt) (hk : ∀ p ∈ a₀.toList, HasK κ p) (h : RI κ a₀ st Rs S) (hi : i + 1 < Rs.length)
    (q : ∀ st' Rs', RI κ a₀ st' Rs' S → Rs'.length + 1 = Rs.length → Rs'.flatten.length = Rs.flatten.length → Q true st') : wpS (model prog w) A E s (mergeAt' i) Q st := by
  obtain ⟨F, X, Y, B, rfl, hF⟩ := split2 Rs i hi
  have hl : lyt 0 (F ++ X :: Y :: B) = lyt 0 F ++ (F.flatten.length, X.length) :: (F.flatten.length + X.length, Y.length) :: lyt (F.flatten.length + X.length + Y.length) B := by
    rw [lyt_app, Nat.zero_add]; rfl
  have hp := h.pnd
  rw [hl] at hp
  obtain ⟨L1, L2, e, e1, e2⟩ := List.map_eq_append_iff.mp hp
  obtain ⟨⟨u1, u2, u3⟩, L3, rfl, e3, e4⟩ := List.map_eq_cons_iff.mp e2
  obtain ⟨⟨v1, v2, v3⟩, L4, rfl, e5, e6⟩ := List.map_eq_cons_iff.mp e4
  simp only [f2, Prod.mk.injEq] at e3 e5
  obtain ⟨rfl, rfl⟩ := e3
  obtain ⟨rfl, rfl⟩ := e5
  have hL1 : L1.length = i := by
    have := congrArg List.length e1
    rw [List.length_map, lyt_len] at this; omega
  have pe : pendingOf st = (L1 ++ (F.flatten.length, X.length, u3) :: (F.flatten.length + X.length, Y.length, v3) :: L4).toArray := by rw [← e]
  have hX := h.srt X (by simp)
  have hY := h.srt Y (by simp)
  refine wpS_at (P := F.flatten) (X := X) (Y := Y) (S := B.flatten ++ S) (pw := u3) (pw2 := v3) hO h.knd h.fld ?_ ?_ ?_ hX.1 hY.1 hX.2 hY.2 (h.keys hk) fun st' Z hZ ha hpn hkd hf => ?_
  · rw [pe, List.getElem?_toArray, List.getElem?_append_right (by omega), hL1]; simp
  · rw [pe, List.getElem?_toArray, List.getElem?_append_right (by omega), hL1]; simp
  · rw [h.arr]; simp
  · have hZl : Z.length = X.length + Y.length := by rw [hZ.1.length_eq, List.length_append]
    refine q st' (F ++ Z :: B) ⟨?_, hkd, hf, ?_, ?_, fun R hR => ?_⟩ (by simp only [List.length_append, List.length_cons]; omega) (by simp [hZl]; omega)
    · rw [Array.perm_iff_toList_perm]
      refine List.Perm.trans ?_ (Array.perm_iff_toList_perm.mp h.prm)
      rw [ha, h.arr]
      simp only [List.flatten_append, List.flatten_cons, List.append_assoc]
      refine List.Perm.append_left _ ?_
      rw [← List.append_assoc X]
      exact hZ.1.append_right _
    · rw [ha]; simp
    · rw [hpn, pe]
      have : (((L1 ++ (F.flatten.length, X.length, u3) :: (F.flatten.length + X.length, Y.length, v3) :: L4).toArray.setIfInBounds i (F.flatten.length, X.length + Y.length, u3)).eraseIdxIfInBounds (i + 1)).toList = L1 ++ (F.flatten.length, X.length + Y.length, u3) :: L4 := by
        rw [← hL1]
        simp [Array.eraseIdxIfInBounds, List.eraseIdx_append_of_length_le]
      rw [this, lyt_app, List.map_append, List.map_cons, e1, e6, Nat.zero_add]
      show _ = lyt 0 F ++ (F.flatten.length, Z.length) :: lyt (F.flatten.length + Z.length) B
      rw [hZl, ← Nat.add_assoc]
    · rcases List.mem_append.mp hR with z | z
      · exact h.srt R (by simp [z])
      · rcases List.mem_cons.mp z with rfl | z
        · exact ⟨hZ.2, by omega⟩
        · exact h.srt R (by simp [z])
/-- the stretch behind the runs, once it is in order -/
theorem RI.next (h : RI κ a₀ st Rs S) {st' : SortSt} {n : Nat} (hB : LB (arrOf st) (pendingOf st) Rs.flatten.length st') (hn : Rs.flatten.length + n ≤ (arrOf st).size) (hu : upTo κ Rs.flatten.length st' n) :
    ∃ Z S', RI κ a₀ st' Rs (Z ++ S') ∧ Z.length = n ∧ Z.Pairwise (leP κ) := by
  have hsz := hB.siz
  have hlow : (arrOf st').toList.take Rs.flatten.length = Rs.flatten := by
    have : (arrOf st').toList.take Rs.flatten.length = (arrOf st).toList.take Rs.flatten.length := by
      apply List.ext_getElem?
      intro k
      by_cases c : k < Rs.flatten.length
      · rw [List.getElem?_take_of_lt c, List.getElem?_take_of_lt c, Array.getElem?_toList, Array.getElem?_toList]
        exact hB.low k c
      · rw [List.getElem?_take_eq_none (by omega), List.getElem?_take_eq_none (by omega)]
    rw [this, h.arr, List.take_left]
  refine ⟨((arrOf st').toList.drop Rs.flatten.length).take n, ((arrOf st').toList.drop Rs.flatten.length).drop n, ⟨hB.prm.trans h.prm, hB.knd, hB.fld, ?_, by rw [hB.pnd]; exact h.pnd, h.srt⟩, ?_, ?_⟩
  · rw [List.take_append_drop]
    conv => lhs; rw [← List.take_append_drop Rs.flatten.length (arrOf st').toList, hlow]
  · rw [List.length_take, List.length_drop, Array.length_toList]; omega
  · rw [List.pairwise_iff_getElem]
    intro i j hi hj hij
    rw [List.length_take] at hi hj
    have ei : ∀ t (ht : t < n), ku κ Rs.flatten.length st' t = kyP κ ((arrOf st')[Rs.flatten.length + t]'(by omega)) := fun t ht => by
      unfold ku KK kyP
      rw [getElem?_pos (arrOf st') (Rs.flatten.length + t) (by omega)]
    have := hu i j (by omega) (by omega)
    rw [ei i (by omega), ei j (by omega)] at this
    unfold leP
    simpa using this
end
end TS

set_option maxRecDepth 100000
namespace TS
open PySem PyProof.Rows
section
variable {prog : Program} {w : World} {A : Around} {E : Value → Shared → Prop} {s : Shared} {κ : PyProof.Rows.KeyKind} {a₀ : Array Keyed} {st : SortSt} {Rs : List (List Keyed)} {S : List Keyed}
theorem RI.siz (h : RI κ a₀ st Rs S) : (arrOf st).size = a₀.size := h.prm.size_eq
theorem RI.tot (h : RI κ a₀ st Rs S) : Rs.flatten.length + S.length = a₀.size := by
  rw [← h.siz, ← Array.length_toList, h.arr, List.length_append]
theorem RI.pend (h : RI κ a₀ st Rs S) {p : Array (Nat × Nat × Nat)} (hp : p.toList.map f2 = (pendingOf st).toList.map f2) : RI κ a₀ (setPending st p) Rs S :=
  ⟨h.prm, h.knd, h.fld, h.arr, hp.trans h.pnd, h.srt⟩
theorem RI.push {Z : List Keyed} {k : Nat} (h : RI κ a₀ st Rs (Z ++ S)) (hZ : Z.Pairwise (leP κ)) (h1 : 1 ≤ Z.length) : RI κ a₀ (setPending st ((pendingOf st).push (Rs.flatten.length, Z.length, k))) (Rs ++ [Z]) S := by
  refine ⟨h.prm, h.knd, h.fld, ?_, ?_, fun R hR => ?_⟩
  · show (arrOf st).toList = _
    rw [h.arr]; simp
  · show ((pendingOf st).push (Rs.flatten.length, Z.length, k)).toList.map f2 = _
    rw [Array.toList_push, List.map_append, h.pnd, lyt_app, Nat.zero_add]; rfl
  · rcases List.mem_append.mp hR with z | z
    · exact h.srt R z
    · rw [List.mem_singleton.mp z]; exact ⟨hZ, h1⟩
theorem mod_f2 (p : Array (Nat × Nat × Nat)) (i k : Nat) : (p.modify i fun x => (x.1, x.2.1, k)).toList.map f2 = p.toList.map f2 := by
  rw [Array.toList_modify]
  apply List.ext_getElem?
  intro t
  rw [List.getElem?_map, List.getElem?_map, List.getElem?_modify]
  cases p.toList[t]? with
  | none => rfl
  | some x =>
    show some (f2 (if i = t then _ else x)) = some (f2 x)
    split <;> rfl
/-- what is done once a run is found -/
noncomputable def thenP (N b n : Nat) : StateT SortSt Sem (ForInStep (Option Unit × Nat)) := do
  let u ← get
  match (pendingOf u).back? with
  | some (x, y, _) => do
    let c ← forIn [:N] ((none, ()) : Option Unit × Unit) fun _ _ => do
      let v ← get
      match (if (pendingOf v).size > 1 then (pendingOf v)[(pendingOf v).size - 2]? else none) with
      | some (_, _, o) =>
        if o ≤ power' N (2 * x + y) (2 * x + y + y + n) N then pure (.done (none, ()))
        else do
          let r ← mergeAt' ((pendingOf v).size - 2)
          if (!r) = true then pure (.done (some (), ())) else pure (.yield (none, ()))
      | _ => pure (.done (none, ()))
    match c.1 with
    | some r => pure (.done (some r, b))
    | none => do
      modify fun v => setPending v ((pendingOf v).modify ((pendingOf v).size - 1) fun z => (z.1, z.2.1, power' N (2 * x + y) (2 * x + y + y + n) N))
      modify fun v => setPending v ((pendingOf v).push (b, n, 0))
      pure (.yield (none, b + n))
  | _ => do
    modify fun v => setPending v ((pendingOf v).push (b, n, 0))
    pure (.yield (none, b + n))
theorem wpS_then {Z : List Keyed} {N b n : Nat} {Q : ForInStep (Option Unit × Nat) → SortSt → Prop} (hO : κ.OneLt) (hk : ∀ p ∈ a₀.toList, HasK κ p) (h : RI κ a₀ st Rs (Z ++ S)) (hZ : Z.Pairwise (leP κ)) (h1 : 1 ≤ Z.length) (hb : Rs.flatten.length = b) (hn : Z.length = n)
    (q : ∀ st' Rs', RI κ a₀ st' Rs' S → Rs'.flatten.length = b + n → Q (.yield (none, b + n)) st') : wpS (model prog w) A E s (thenP N b n) Q st := by
  unfold thenP
  refine wpS_bind (wpS_get ?_)
  cases hbk : (pendingOf st).back? with
  | none =>
    dsimp only
    refine wpS_bind (wpS_modify (wpS_pure (q _ (Rs ++ [Z]) ?_ (by simp [hb, hn]))))
    rw [← hb, ← hn]
    exact h.push hZ h1
  | some t =>
    obtain ⟨x, y, o⟩ := t
    dsimp only
    refine wpS_bind (wpS_mono (wpS_forRange (I := fun _ c u => c = (none, ()) ∧ ∃ Rs', RI κ a₀ u Rs' (Z ++ S) ∧ Rs'.flatten.length = b) (Q := fun c u => c = (none, ()) ∧ ∃ Rs', RI κ a₀ u Rs' (Z ++ S) ∧ Rs'.flatten.length = b) ?_ (fun _ _ z => z) ⟨rfl, Rs, h, hb⟩) ?_)
    · rintro i c u _ _ ⟨rfl, Rs', hR, hl⟩
      refine wpS_bind (wpS_get ?_)
      by_cases c1 : (pendingOf u).size > 1
      · rw [if_pos c1]
        rw [getElem?_pos (pendingOf u) ((pendingOf u).size - 2) (by omega)]
        dsimp only
        split
        · exact wpS_pure ⟨rfl, Rs', hR, hl⟩
        · refine wpS_bind (wpS_mrg hO hk hR (by have := hR.psz; omega) fun v Rs2 hR2 _ hl2 => ?_)
          rw [if_neg (by simp)]
          exact wpS_pure ⟨rfl, Rs2, hR2, hl2.trans hl⟩
      · rw [if_neg c1]
        exact wpS_pure ⟨rfl, Rs', hR, hl⟩
    · rintro c u ⟨rfl, Rs', hR, hl⟩
      dsimp only
      refine wpS_bind (wpS_modify (wpS_bind (wpS_modify (wpS_pure (q _ (Rs' ++ [Z]) ?_ (by simp [hl, hn]))))))
      have h2 := hR.pend (mod_f2 (pendingOf u) ((pendingOf u).size - 1) (power' N (2 * x + y) (2 * x + y + y + n) N))
      rw [← hl, ← hn]
      rw [← hn] at h2
      exact h2.push hZ h1
end
end TS

set_option maxRecDepth 100000
namespace TS
open PySem PyProof.Rows
section
variable {prog : Program} {w : World} {A : Around} {E : Value → Shared → Prop} {s : Shared} {κ : PyProof.Rows.KeyKind} {a₀ : Array Keyed} {st : SortSt} {Rs : List (List Keyed)} {S : List Keyed}
theorem wpS_to {α : Type} {m m' : StateT SortSt Sem α} {Q : α → SortSt → Prop} (e : m = m') (h : wpS (model prog w) A E s m' Q st) : wpS (model prog w) A E s m Q st := by rw [e]; exact h
theorem wpS_all {Q : Unit → SortSt → Prop} (hO : κ.OneLt) (hk : ∀ p ∈ a₀.toList, HasK κ p) (h : RI κ a₀ st [] S)
    (q : ∀ st', (arrOf st').Perm a₀ → failedOf st' = none → (arrOf st').toList.Pairwise (leP κ) → Q () st') : wpS (model prog w) A E s sortRuns' Q st := by
  rw [sortRuns'_eq]
  refine wpS_bind (wpS_get ?_)
  dsimp only
  rw [h.siz]
  generalize minRun' a₀.size a₀.size 0 = mr
  refine wpS_bind (wpS_mono (wpS_forRange
    (I := fun x c u => ∃ Rs S, c = (none, Rs.flatten.length) ∧ RI κ a₀ u Rs S ∧ min x a₀.size ≤ Rs.flatten.length)
    (Q := fun c u => c.1 = none ∧ ∃ Rs, RI κ a₀ u Rs []) ?_ ?_ ⟨[], S, rfl, h, by simp⟩) ?_)
  · rintro x c u _ hx ⟨Rs, S, rfl, hR, hxl⟩
    dsimp only
    have ht := hR.tot
    by_cases c0 : Rs.flatten.length ≥ a₀.size
    · rw [if_pos c0]
      refine wpS_pure ⟨rfl, Rs, ?_⟩
      obtain rfl : S = [] := List.eq_nil_of_length_eq_zero (by omega)
      exact hR
    rw [if_neg c0]
    have hsz := hR.siz
    have hB0 : LB (arrOf u) (pendingOf u) Rs.flatten.length u := ⟨Array.Perm.refl _, hR.knd, hR.fld, rfl, fun _ _ => rfl⟩
    have hku := hR.keys hk
    have go : ∀ (n : Nat) (v : SortSt), 1 ≤ n → Rs.flatten.length + n ≤ a₀.size → LB (arrOf u) (pendingOf u) Rs.flatten.length v → upTo κ Rs.flatten.length v n →
        wpS (model prog w) A E s (thenP a₀.size Rs.flatten.length n) (fun r st' => match r with | .done c' => c'.1 = none ∧ ∃ Rs, RI κ a₀ st' Rs [] | .yield c' => ∃ Rs S, c' = (none, Rs.flatten.length) ∧ RI κ a₀ st' Rs S ∧ min (x + 1) a₀.size ≤ Rs.flatten.length) v := by
      intro n v n1 n2 hB hu
      obtain ⟨Z, S', hR', hZl, hZ⟩ := hR.next hB (by omega) hu
      refine wpS_then hO hk hR' hZ (by omega) rfl hZl fun st' Rs' hR2 hl2 => ⟨Rs', S', by rw [hl2], hR2, by omega⟩
    refine wpS_bind (wpS_run hO hku (by omega) (by omega) hB0 fun m v hB m1 m2 hu => ?_)
    dsimp only
    by_cases c1 : m < mr
    · rw [if_pos c1]
      refine wpS_bind (wpS_lift (wpAny_rule ⟨rfl, ?_⟩))
      refine wpS_bind (wpS_bin hO hku (by omega) (by omega) hB hu fun v' hB' hu' => ?_)
      rw [if_neg (by simp)]
      refine wpS_mono (wpS_to ?_ (go _ v' (by omega) (by omega) hB' hu')) fun r _ z => by cases r <;> exact z
      refine bd rfl fun u => ?_
      cases (pendingOf u).back? with
      | none => rfl
      | some t =>
        obtain ⟨x, y, o⟩ := t
        refine bd ?_ fun c => ?_
        · rfl
        · obtain ⟨r, _⟩ := c; cases r <;> rfl
    · rw [if_neg c1]
      refine wpS_mono (wpS_to ?_ (go _ v m1 (by omega) hB hu)) fun r _ z => by cases r <;> exact z
      refine bd rfl fun u => ?_
      cases (pendingOf u).back? with
      | none => rfl
      | some t =>
        obtain ⟨x, y, o⟩ := t
        refine bd ?_ fun c => ?_
        · rfl
        · obtain ⟨r, _⟩ := c; cases r <;> rfl
  · rintro c u ⟨Rs, S, rfl, hR, hxl⟩
    have ht := hR.tot
    obtain rfl : S = [] := List.eq_nil_of_length_eq_zero (by omega)
    exact ⟨rfl, Rs, hR⟩
  · rintro ⟨c, lo⟩ u ⟨hc, Rs, hR⟩
    dsimp only at hc
    subst hc
    dsimp only
    have hrl := runs_len Rs fun R hx => (hR.srt R hx).2
    have ht := hR.tot
    refine wpS_bind (wpS_mono (wpS_forRange
      (I := fun x c u => c = (none, ()) ∧ ∃ Rs, RI κ a₀ u Rs [] ∧ (Rs.length ≤ 1 ∨ Rs.length + x ≤ a₀.size))
      (Q := fun c u => c = (none, ()) ∧ ∃ Rs, RI κ a₀ u Rs [] ∧ Rs.length ≤ 1) ?_ ?_ ⟨rfl, Rs, hR, .inr (by rw [List.length_nil] at ht; omega)⟩) ?_)
    · rintro x c u _ hx ⟨rfl, Rs, hR, hor⟩
      refine wpS_bind (wpS_get ?_)
      have hp := hR.psz
      by_cases c1 : (pendingOf u).size ≤ 1
      · rw [if_pos c1]
        exact wpS_pure ⟨rfl, Rs, hR, by omega⟩
      · rw [if_neg c1]
        refine wpS_bind (wpS_mrg hO hk hR ?_ fun v Rs2 hR2 hl2 _ => ?_)
        · have pick : ∀ (q : Prop) [Decidable q] (x y n : Nat), x < n → y < n → (if q then x else y) < n := fun q _ x y n h1 h2 => by split <;> assumption
          exact Nat.add_lt_of_lt_sub (pick _ _ _ _ (by omega) (by omega))
        · rw [if_neg (by simp)]
          exact wpS_pure ⟨rfl, Rs2, hR2, by omega⟩
    · rintro c u ⟨rfl, Rs, hR, hor⟩
      refine ⟨rfl, Rs, hR, ?_⟩
      rcases hor with z | z
      · exact z
      · omega
    · rintro c u ⟨rfl, Rs, hR, h1⟩
      refine wpS_pure (q u hR.prm hR.fld ?_)
      rw [hR.arr, List.append_nil]
      match Rs, h1, hR with
      | [], _, _ => exact List.Pairwise.nil
      | [R], _, hR =>
        rw [List.flatten_cons, List.flatten_nil, List.append_nil]
        exact (hR.srt R (by simp)).1
end
end TS

set_option maxRecDepth 100000
namespace TS
open PySem PyProof.Rows
section
variable {prog : Program} {w : World} {A : Around} {E : Value → Shared → Prop} {s : Shared} {κ : PyProof.Rows.KeyKind}
theorem pairs_keys {vs : List Value} (h0 : KeysOf κ (pairsOf vs)) : ∀ p ∈ (pairsOf vs).toList, HasK κ p := fun p hp => h0 p hp
theorem sorted_idx {xs : Array Keyed} (h : xs.toList.Pairwise (leP κ)) {n : Nat} (hn : n ≤ xs.size) : SortedToK κ xs n := fun i j hij hj => by
  have hi : i < xs.size := by omega
  have hj' : j < xs.size := by omega
  have : leP κ xs[i] xs[j] := pw_idx h hij (by rw [Array.getElem?_toList]; exact getElem?_pos xs i hi) (by rw [Array.getElem?_toList]; exact getElem?_pos xs j hj')
  unfold leP kyP at this
  unfold KK
  rw [getElem?_pos xs i hi, getElem?_pos xs j hj']
  exact this
/-- a list's sort, of any length that it may have -/
theorem sort_any (hO : κ.OneLt) {a : Addr} {vs : List Value} {n : Nat} {P : Fin → Shared → Prop} (ho : s.heap.get? a = some (seqObj "list" vs.toArray n)) (hz : vs.length ≤ sizeLine)
    (h0 : KeysOf κ (pairsOf vs)) (hkk : ∀ x y r, vs = x :: y :: r → keyKind' (x :: y :: r).toArray = pure oneType')
    (q : ∀ t : SortSt, (arrOf t).Perm (pairsOf vs) → SortedToK κ (arrOf t) (pairsOf vs).size → P (.done (.ret .none)) { s with heap := sortedHeap s.heap a vs ((arrOf t).map (·.2)) }) :
    wpAny (model prog w) A (Builtin.«list.sort» ⟨[.ref a], []⟩) P E s := by
  have hz' : vs.toArray.size ≤ sizeLine := by simpa using hz
  rw [list_sort_plain]
  have ha := Heap.lt_size ho
  refine wpAny_bind (listItems_at ho rfl (wpAny_bind (listUpdate_at ho rfl ?_ hz' (Nat.zero_le _))))
  obtain ⟨e1, ho1⟩ : ∃ e1, (s.heap.update a (Obj.mapSeq fun _ => #[])).get? a = some (seqObj "list" #[] e1) := ⟨_, get?_update_seq ho _⟩
  refine wpAny_bind (seqEpoch_at ho1 rfl (wpAny_bind (wpAny_newTuple (wpAny_bind (wpAny_newList (wpAny_holding ?_))))))
  have ho6 : (((s.heap.update a (Obj.mapSeq fun _ => #[])).push (seqObj "tuple" vs.toArray 0)).push (seqObj "list" #[] 0)).get? a = some (seqObj "list" #[] e1) :=
    Heap.get?_push_of_some _ (Heap.get?_push_of_some _ ho1)
  show wpAny _ A _ P E { s with heap := ((s.heap.update a (Obj.mapSeq fun _ => #[])).push (seqObj "tuple" vs.toArray 0)).push (seqObj "list" #[] 0) }
  dsimp only
  by_cases h2 : vs.toArray.size < 2
  · rw [if_pos h2, if_pos h2]
    refine wpAny_bind (wpAny_pure ?_)
    rw [StateT.run_pure]
    refine wpAny_bind (wpAny_pure (wpAny_bind (seqEpoch_at ho6 rfl (wpAny_bind (listUpdate_at ho6 rfl ?_ (Nat.zero_le _) ?_)))))
    · simp only [bne_self_eq_false, Bool.false_eq_true, if_false]
      refine wpAny_pure (q (SortSt.mk' general' (vs.toArray.zip vs.toArray) #[] 7 none) (Array.Perm.refl _) fun i j hij hj => ?_)
      have hv : vs.length < 2 := by simpa using h2
      obtain rfl : i = j := by rw [pairsOf_size] at hj; omega
      exact KeyOrd.kle_refl _
    · show ((vs.toArray.zip vs.toArray).map (·.2)).size ≤ sizeLine + 1
      simp; omega
  · rw [if_neg h2, if_neg h2]
    obtain ⟨x, y, r, rfl⟩ : ∃ x y r, vs = x :: y :: r := by
      match vs, h2 with
      | [], h2 => simp at h2
      | [_], h2 => simp at h2
      | x :: y :: r, _ => exact ⟨x, y, r, rfl⟩
    rw [hkk _ _ _ rfl]
    refine wpAny_bind (wpAny_pure (wpAny_bind (wpAny_mono (wpS_all (κ := κ) (a₀ := pairsOf (x :: y :: r)) (S := (pairsOf (x :: y :: r)).toList) (st := SortSt.mk' oneType' ((x :: y :: r).toArray.zip (x :: y :: r).toArray) #[] 7 none)
      (Q := fun _ t => (arrOf t).Perm (pairsOf (x :: y :: r)) ∧ failedOf t = none ∧ (arrOf t).toList.Pairwise (leP κ)) hO (pairs_keys h0) ⟨Array.Perm.refl _, rfl, rfl, rfl, rfl, fun R z => nomatch z⟩ fun t t1 t2 t3 => ⟨t1, t2, t3⟩) ?_ fun _ _ e => e)))
    rintro ⟨⟨⟩, t⟩ s' ⟨rfl, hp, hf, hs⟩
    refine wpAny_bind (seqEpoch_at ho6 rfl (wpAny_bind (listUpdate_at ho6 rfl ?_ (Nat.zero_le _) ?_)))
    · rw [hf]
      simp only [bne_self_eq_false, Bool.false_eq_true, if_false]
      exact wpAny_pure (q t hp (sorted_idx hs (Nat.le_of_eq hp.size_eq.symm)))
    · refine Nat.le_trans (Nat.le_of_eq ((Array.size_map ..).trans (hp.size_eq.trans (pairsOf_size _)))) ?_
      omega
theorem sorted_by (hO : κ.OneLt) {v : Value} {Q : Value → Shared → Prop}
    (hc : ∀ A', A'.handled = A.handled → wpAny (model prog w) A' (collect v) (fun vs s1 => KeysOf κ (pairsOf vs) ∧ (∀ x y r, vs = x :: y :: r → keyKind' (x :: y :: r).toArray = pure oneType') ∧ vs.length ≤ sizeLine ∧
      ∀ t : SortSt, (arrOf t).Perm (pairsOf vs) → SortedToK κ (arrOf t) (pairsOf vs).size → Q (.ref s1.heap.objs.size) { s1 with heap := sortedHeap (s1.heap.push (seqObj "list" vs.toArray 0)) s1.heap.objs.size vs ((arrOf t).map (·.2)) }) E s) :
    wpAny (model prog w) A (call (.builtin "sorted") [v]) Q E s := by
  refine Calls.call_function_entry kind_sorted plain_sorted entry_sorted (args_sorted1 _) ?_
  unfold Builtin.«sorted»
  refine wpAny_bind (m := checkCount "sorted" 1 1 _) (wpAny_pure ?_)
  refine wpAny_bind (wpAny_mono (hc _ ?_) (fun vs s1 h => ?_) fun _ _ e => e)
  · simp
  obtain ⟨h0, hkk, hz, h⟩ := h
  refine wpAny_bind (wpAny_newList ?_)
  have hoL : (s1.heap.push (seqObj "list" vs.toArray 0)).get? s1.heap.objs.size = some (seqObj "list" vs.toArray 0) := Heap.get?_push_size _ rfl
  refine wpAny_bind (wpAny_holding (wpAny_call_entry slot_list_sort ⟨_, hoL, rfl⟩ entry_list_sort (sort_any (κ := κ) hO hoL hz h0 hkk fun t t1 t2 => ⟨_, rfl, ?_⟩) (args_list_sort _)))
  exact wpAny_pure ⟨_, rfl, h t t1 t2⟩
end
end TS

set_option maxRecDepth 100000
namespace RB
open PySem L2 PySem.Spec PyProof.Rows
theorem perm_of_sub {α : Type} [DecidableEq α] : ∀ (l m : List α), l.Nodup → (∀ x ∈ l, x ∈ m) → m.length = l.length → m.Perm l
  | [], m, _, _, h => by rw [List.eq_nil_of_length_eq_zero h]
  | x :: l, m, hn, hs, h => by
    have hx := hs x List.mem_cons_self
    have hn' := List.nodup_cons.mp hn
    have h1 := List.perm_cons_erase hx
    refine h1.trans ((perm_of_sub l (m.erase x) hn'.2 (fun y hy => ?_) ?_).cons x)
    · exact (List.mem_erase_of_ne (fun e : y = x => hn'.1 (e ▸ hy))).mpr (hs y (List.mem_cons_of_mem _ hy))
    · have := h1.length_eq
      simp only [List.length_cons] at this h; omega
theorem metS_nd : ∀ (r acc : List Str), acc.Nodup → (metS acc r).Nodup
  | [], acc, h => h
  | x :: r, acc, h => by
    rw [metS]
    split
    · exact metS_nd r acc h
    · rename_i hx
      refine metS_nd r _ ?_
      rw [List.nodup_append]
      exact ⟨h, List.pairwise_singleton _ _, fun y hy z hz e => hx (by rw [List.mem_singleton.mp hz] at e; exact e ▸ hy)⟩
theorem metS_mem : ∀ (r acc : List Str) (y : Str), y ∈ metS acc r ↔ y ∈ acc ∨ y ∈ r
  | [], acc, y => by simp [metS]
  | x :: r, acc, y => by
    rw [metS]
    split
    · rename_i hx
      rw [metS_mem r acc y, List.mem_cons]
      exact ⟨fun h => h.elim .inl fun z => .inr (.inr z), fun h => h.elim .inl fun z => z.elim (fun e => .inl (e ▸ hx)) .inr⟩
    · rw [metS_mem r _ y, List.mem_append, List.mem_singleton, List.mem_cons, or_assoc]
namespace SI
theorem lenS : typeLookup (.type "set") "__len__" = pure (some (.builtin "set.__len__")) := by
  rw [typeLookup_type, builtinLookup_eq_fast]
  kernel_rfl
end SI
section
variable {prog : Program} {w : World} {A : Around} {E : Value → Shared → Prop} {s : Shared}
theorem collect_set {a : Addr} {acc : List Str} {Q : List Value → Shared → Prop} (hh : A.handled = none) (hS : TSetL prog w s.heap a acc) (hn : acc.Nodup)
    (q : ∀ (vs : List Value) (ss : List Str) (h' : Heap) (d : Drawn) (tk : Nat), StrsAre vs ss → ss.Perm acc → (∀ b o, s.heap.get? b = some o → h'.get? b = some o) → s.heap.objs.size < h'.objs.size → Q vs { s with heap := h', drawn := d, toks := tk }) :
    wpAny (model prog w) A (collect (.ref a)) Q E s := by
  obtain ⟨o, es, ep, t, ho, hex, hd, hel, hm, hb, hf, hz, hl⟩ := id hS
  have hlt := Heap.lt_size ho
  have hzl : es.size ≤ sizeLine := fits_of_scanBound hb
  unfold collect
  refine wpAny_bind (wpAny_runValue (codeAny_builtin PySem.F.entry_proto_collect ?_))
  rw [Around.under_plainId PySem.F.plain_proto_collect _]
  show wpAny _ A.in1 (newList [] >>= fun l => again (.builtin "list.__iadd__" ⟨[l, .ref a], []⟩)) _ _ s
  refine wpAny_bind (wpAny_newObj_type (wpAny_pure ⟨plainId_quiet PySem.F.plain_list_iadd _, codeAny_builtin PySem.F.entry_list_iadd ?_⟩))
  rw [Around.under_plainId PySem.F.plain_list_iadd _]
  show wpAny _ A.in1 (Builtin.List.listExtendWith (.ref s.heap.objs.size) (.ref a) (.ref s.heap.objs.size)) _ _ _
  unfold Builtin.List.listExtendWith
  have hoa : (s.heap.push { cls := .type "list", data := .seq ([] : List Value).toArray }).get? a = some o := Heap.get?_push_of_some _ ho
  have hT : Shared.TypeIs { s with heap := s.heap.push { cls := .type "list", data := .seq ([] : List Value).toArray } } (.ref a) "set" := ⟨o, hoa, hex.1⟩
  refine wpAny_bind (wpAny_typeOf hT ?_)
  have e1 : Builtin.List.listSameRef (.ref s.heap.objs.size) (.ref a) = false := by simpa [Builtin.List.listSameRef] using Nat.ne_of_gt hlt
  rw [if_neg (by rw [e1]; decide)]
  refine wpAny_bind (iter_set (s := { s with heap := s.heap.push { cls := .type "list", data := .seq ([] : List Value).toArray } }) ⟨o, hoa, hex, hd, hf⟩ hl hb fun I h2 d hI hk2 hw => ?_)
  refine wpAny_bind (wpAny_holding ?_)
  unfold Builtin.List.listLengthHint
  have hT2 : Shared.TypeIs { s with heap := h2, drawn := d } (.ref a) "set" := ⟨o, hk2 _ _ hoa, hex.1⟩
  refine wpAny_bind (wpAny_specialOf hT2 SI.lenS ?_)
  generalize hid : ("set.__len__" : String) = id0
  (fail_if_success (clear hid id0))
  wp_delta
  rw [show splitId id0 = some ("set", "__len__") from by subst hid; decide +kernel]
  subst hid
  refine wpAny_bind (wpAny_isInstance (b := true) hT2 sub_set_self ?_)
  rw [if_neg (by decide), if_pos (by decide)]
  refine wpAny_bind (wpAny_typeOf hT2 (wpAny_pure ?_))
  rw [if_pos (by decide)]
  refine wpAny_bind (wpAny_rule ?_)
  obtain ⟨ord, fp, St, hpm, W, st0, hfp⟩ := hw
  have hS1 : h2.get? s.heap.objs.size = some { cls := .type "list", dict := none, data := .seq #[] 0, slots := #[] } := hk2 _ _ (Heap.get?_push_size _ rfl)
  have hSf : s.heap.objs.size ∉ fp := fun z => by
    rcases (hfp _ z).2 with y | y
    · exact Nat.lt_irrefl _ (Nat.lt_of_le_of_lt (Nat.le_of_eq y) hlt)
    · have : (s.heap.push { cls := .type "list", data := .seq ([] : List Value).toArray }).objs.size ≤ s.heap.objs.size := y
      rw [Heap.size_push] at this
      exact Nat.not_succ_le_self _ this
  refine wpAny_bind ?_
  show wpAny _ A.in1 (updateSeq s.heap.objs.size (·.push .none) >>= fun _ => updateSeq s.heap.objs.size (·.pop)) _ _ { s with heap := h2, drawn := d }
  refine wpAny_bind (wpAny_updateSeq hS1 rfl (wpAny_updateSeq (Heap.get?_update_self (Obj.mapSeq (·.push Value.none)) hS1 rfl) rfl ?_))
  have hS3 := Heap.get?_update_self (Obj.mapSeq (·.pop)) (Heap.get?_update_self (Obj.mapSeq (·.push Value.none)) hS1 rfl) rfl
  have oth : ∀ b o, b ≠ s.heap.objs.size → h2.get? b = some o → ((h2.update s.heap.objs.size (Obj.mapSeq (·.push Value.none))).update s.heap.objs.size (Obj.mapSeq (·.pop))).get? b = some o :=
    fun b o hb e => (Heap.get?_update_other _ _ (Ne.symm hb)).trans ((Heap.get?_update_other _ _ (Ne.symm hb)).trans e)
  have Wc := (W A.in1 hh).toS
  refine wpAny_pure ⟨plainId_quiet PySem.F.plain_extend_loop _, codeAny_extend_loopS Wc hzl _ hSf _ es.size 0 _ _ _ rfl (Nat.zero_le _) (Wc.frame 0 { s with heap := h2, drawn := d } _ s.toks st0 (Nat.le_refl _) fun b hb o e => oth b o (fun y => hSf (y ▸ hb)) e) hS3 (ItemsOf.nil _) fun s3 ac c' mv hS' hit => ?_⟩
  show wpAny _ A (load s.heap.objs.size >>= _) _ _ s3
  refine wpAny_bind (wpAny_load hS' ?_)
  have hac : ac.toList = ord := by
    apply List.ext_getElem?
    intro i
    have hol : ord.length = es.size := by rw [hpm.length_eq]; simp
    by_cases hi : i < es.size
    · obtain ⟨v, hv⟩ : ∃ v, ac[i]? = some v := ⟨_, getElem?_pos ac i (by rw [hit.1]; exact hi)⟩
      rw [Array.getElem?_toList, hv, hit.2 i v hv]
    · rw [List.getElem?_eq_none (by rw [Array.length_toList, hit.1]; omega), List.getElem?_eq_none (by omega)]
  have hall : ∀ v ∈ ord, ∃ x u, v = .str x u ∧ x ∈ acc := fun v hv => by
    obtain ⟨e, he, rfl⟩ := List.mem_map.mp (hpm.mem_iff.mp hv)
    obtain ⟨⟨k, hk, _⟩, _⟩ := hel e he
    obtain ⟨u, hu⟩ := Value.isStrOf_shape hk
    exact ⟨k, u, hu, (hm k).mpr ⟨e, he, hk⟩⟩
  have hstr := strsAre_map ord fun v hv => let ⟨x, u, e, _⟩ := hall v hv; ⟨x, u, e⟩
  have key : (ord.map strOf).Perm acc := by
    refine perm_of_sub acc _ hn (fun x hx => ?_) ?_
    · obtain ⟨e, he, hk⟩ := (hm x).mp hx
      obtain ⟨u, hu⟩ := Value.isStrOf_shape hk
      refine List.mem_map.mpr ⟨e.2, hpm.mem_iff.mpr (List.mem_map.mpr ⟨e, he, rfl⟩), ?_⟩
      rw [hu]; rfl
    · rw [List.length_map, hpm.length_eq, List.length_map, Array.length_toList, hz]
  obtain ⟨h5, g5, d5, tk5, os5⟩ := s3
  have g1 : g5 = s.gens := mv.gens
  have g2 : d5 = d := mv.drawn
  have g3 : os5 = s.os := mv.os
  subst g1 g2 g3
  rw [← hac] at key hstr
  refine wpAny_pure (q ac.toList _ h5 d5 tk5 hstr key (fun b o' z => ?_) (Heap.lt_size hS'))
  have hbl := Heap.lt_size z
  refine mv.heap b o' (fun y => ?_) (oth b o' (Nat.ne_of_lt hbl) (hk2 b o' (Heap.get?_push_of_some _ z)))
  rcases List.mem_cons.mp y with y | y
  · exact Nat.lt_irrefl _ (y ▸ hbl)
  · rw [List.mem_singleton.mp y] at hbl
    have : (s.heap.push { cls := .type "list", data := .seq ([] : List Value).toArray }).objs.size ≤ I := hI
    rw [Heap.size_push] at this
    exact Nat.lt_irrefl _ (Nat.lt_of_lt_of_le hbl (Nat.le_of_succ_le this))
end
end RB

set_option maxRecDepth 100000
namespace L2
open PySem PySem.Spec PyProof.Rows RB
section
variable {X : Cx}
theorem texts_at : ∀ {ts : List Str} {its : List Value}, Vals (ts.map V.str) its → ts.length = its.length ∧ ∀ (i : Nat) (v : Value), its[i]? = some v → ∃ x t, ts[i]? = some x ∧ v = .str x t
  | [], _, .nil => ⟨rfl, fun i v h => by simp at h⟩
  | x :: ts, _, .cons r rr => by
    obtain ⟨h1, h2⟩ := texts_at rr
    refine ⟨by simp [h1], fun i v h => ?_⟩
    cases i with
    | zero =>
      obtain ⟨t, e⟩ := r
      have : v = .str x t := by rw [← e]; simpa using h.symm
      exact ⟨x, t, rfl, this⟩
    | succ i =>
      obtain ⟨y, t, e1, e2⟩ := h2 i v (by simpa using h)
      exact ⟨y, t, by simpa using e1, e2⟩
/-! ### startswith, endswith of a whole text -/
end
end L2

set_option maxRecDepth 100000
namespace L2
open PySem PySem.Spec PyProof.Rows RB
theorem strs_of {ts : List Str} : ∀ {us : List Value}, Vals (ts.map V.str) us → StrsAre us ts := by
  induction ts with
  | nil => intro us r; cases r; exact .nil
  | cons n ns ih =>
    intro us r
    rw [List.map_cons] at r
    cases r with
    | cons r1 r2 =>
      obtain ⟨t, e⟩ := r1
      subst e
      exact .cons n t (ih r2)
theorem of_strs : ∀ {us : List Value} {ts : List Str}, StrsAre us ts → Vals (ts.map V.str) us
  | _, _, .nil => .nil
  | _, _, .cons y t h => .cons ⟨t, rfl⟩ (of_strs h)
section
variable {X : Cx} {pins : List (Addr × Obj)} {σ : List (Option V)} {H : Hp} {s : Shared}
theorem Inv.drw (I : Inv X pins σ H s) (d : Drawn) : Inv X pins σ H { s with drawn := d } := ⟨I.ok, I.os, I.bare, I.base, I.loc, I.cell, I.free, I.freeC, I.pin, I.hok, I.len⟩
/-- a set of texts that may be gone through -/
noncomputable def TxL (X : Cx) (p : Addr) (ts : List Str) : HO := .ext fun h => RB.TSetL X.prog X.w h p ts
theorem call_setL (hc : X.calm = true) : CallR X (.type "set") (fun xs H Q => ∃ a ts, xs = [.ref a] ∧ SqL X.K H a (ts.map V.str) ∧ ts.length ≤ 1000 ∧ ∀ p, H p = none → Q (.ref p) (upd H p (TxL X p (metS [] ts)))) := by
  intro pins s σ H xs us Q I r h
  obtain ⟨a, ts, rfl, hq, hl, q⟩ := h
  obtain ⟨u, rfl, rx⟩ := vals1 r
  cases rx
  obtain ⟨its, rv, pl, hz⟩ := I.list hq
  obtain ⟨e1, e2⟩ := texts_at rv
  have sz : its.toArray.size = its.length := List.size_toArray ..
  refine call_set_led (ts := ts) (I.ok.hd hc) pl.isList ⟨by rw [sz]; exact e1, fun i v hv => e2 i v (by simpa using hv)⟩ (by rw [sz]; unfold scanBound; omega) fun h' tk t k => ?_
  refine ⟨.ref s.heap.objs.size, _, I.laid (t' := tk) k (Nat.le_refl _) (show ObjOk X.prog X.w _ h' _ (TxL X s.heap.objs.size (metS [] ts)) from ⟨t, ?_, fun h1 h2 t1 k1 => t1.kept k1⟩), rfl, q _ (I.hok.fresh (Nat.le_refl _))⟩
  obtain ⟨o, _, _, _, ho, _⟩ := t
  exact ⟨o, ho⟩
theorem qc_setL (hc : X.calm = true) : QCall X (.type "set") (fun xs H Q => ∃ a ts, xs = [.ref a] ∧ SqL X.K H a (ts.map V.str) ∧ ts.length ≤ 1000 ∧ ∀ p, H p = none → Q (.ref p) (upd H p (TxL X p (metS [] ts)))) := ⟨call_setL hc⟩
theorem fin_sorted {vs : List Value} {ss : List Str} {ts : List Str} {Q : VK} {h1 : Heap} {d : Drawn} {tk : Nat} (I : Inv X pins σ H s) (hk : ∀ b o, s.heap.get? b = some o → h1.get? b = some o) (hsz : s.heap.objs.size ≤ h1.objs.size) (hS : StrsAre vs ss) (hp : ss.Perm ts) (hz : ts.length ≤ sizeLine)
    (q : ∀ (p : Addr) (us : List Str), H p = none → us.Perm ts → sortedS us = true → Q (.ref p) (upd H p (.lst (us.map V.str)))) (t : SortSt) (t1 : (arrOf t).Perm (pairsOf vs)) (t2 : SortedToK PyProof.Rows.strKind (arrOf t) (pairsOf vs).size) :
    EP X pins σ Q (.ref h1.objs.size) { s with heap := sortedHeap (h1.push (seqObj "list" vs.toArray 0)) h1.objs.size vs ((arrOf t).map (·.2)), drawn := d, toks := tk } := by
  obtain ⟨us, u1, u2, u3⟩ := sorted_out_str hS t1 t2
  have hn : (h1.push (seqObj "list" vs.toArray 0)).get? h1.objs.size = some (seqObj "list" vs.toArray 0) := Heap.get?_push_size _ rfl
  obtain ⟨e, he⟩ := sortedHeap_at (out := (arrOf t).map (·.2)) hn
  have kk : ∀ b o, s.heap.get? b = some o → (sortedHeap (h1.push (seqObj "list" vs.toArray 0)) h1.objs.size vs ((arrOf t).map (·.2))).get? b = some o := fun b o z => by
    have hb := Heap.lt_size (hk b o z)
    rw [sortedHeap_old (Nat.ne_of_lt hb) (by rw [Heap.size_push]; exact Nat.lt_succ_of_lt hb)]
    exact Heap.get?_push_of_some _ (hk b o z)
  have hl : (us.map V.str).length ≤ sizeLine := by rw [List.length_map, u2.length_eq, hp.length_eq]; exact hz
  exact ⟨.ref h1.objs.size, _, (I.laid (t' := tk) (o := .lst (us.map V.str)) kk hsz ⟨hl, _, e, of_strs u1, by rw [Array.toArray_toList]; exact he⟩).drw d, rfl, q _ us (I.hok.fresh hsz) (u2.trans hp) u3⟩
/-- sorted(a set of texts) -/
theorem call_sortedS (hc : X.calm = true) : CallR X (.builtin "sorted") (fun xs H Q => ∃ (a : Addr) (ts : List Str), xs = [.ref a] ∧ H a = some (TxL X a ts) ∧ ts.Nodup ∧ ∀ (p : Addr) (us : List Str), H p = none → us.Perm ts → sortedS us = true → Q (.ref p) (upd H p (.lst (us.map V.str)))) := by
  intro pins s σ H xs us Q I r h
  obtain ⟨a, ts, rfl, ha, hn, q⟩ := h
  obtain ⟨u, rfl, rx⟩ := vals1 r
  cases rx
  have hT : RB.TSetL X.prog X.w s.heap a ts := (show ObjOk X.prog X.w H s.heap a (TxL X a ts) from I.hok a _ ha).1
  have hz : ts.length ≤ sizeLine := by
    obtain ⟨_, es, _, _, _, _, _, _, _, hb, _, hl, _⟩ := hT
    rw [← hl]; exact fits_of_scanBound hb
  refine TS.sorted_by (κ := PyProof.Rows.strKind) strKind_oneLt fun A' hA => collect_set (hA.trans (I.ok.hd hc)) hT hn fun vs ss h1 d tk hS hp hk hlt => ?_
  have hvl : vs.length = ts.length := by rw [← hp.length_eq, ← hS.strs, List.length_map]
  refine ⟨hS.keysOf, fun x y r e => keyKind_strs (by rw [← e]; exact hS), by rw [hvl]; exact hz, fun t t1 t2 => ?_⟩
  exact fin_sorted I hk (Nat.le_of_lt hlt) hS hp hz q t t1 t2
theorem qc_sortedS (hc : X.calm = true) : QCall X (.builtin "sorted") (fun xs H Q => ∃ (a : Addr) (ts : List Str), xs = [.ref a] ∧ H a = some (TxL X a ts) ∧ ts.Nodup ∧ ∀ (p : Addr) (us : List Str), H p = none → us.Perm ts → sortedS us = true → Q (.ref p) (upd H p (.lst (us.map V.str)))) := ⟨call_sortedS hc⟩
noncomputable def rExtendT (K : PySem.W.Frag) : V → List V → Hp → VK → Prop := fun x vs H Q => ∃ l b xs zs, x = .ref l ∧ vs = [.ref b] ∧ H l = some (.lst xs) ∧ SqT K H b zs ∧ xs.length + zs.length ≤ sizeLine ∧ Q .non (upd H l (.lst (xs ++ zs)))
theorem mt_extendT : MtM X "list.extend" (rExtendT X.K) := by
  intro pins s σ H x vs v us Q I rx rv h
  obtain ⟨l, b, xs, zs, rfl, rfl, hH, hB, hz, q⟩ := h
  cases rx
  obtain ⟨u, rfl, ru⟩ := rv.one
  cases ru
  obtain ⟨z, its, n, r, hl, e⟩ := I.lstM hH
  obtain ⟨its2, r2, ⟨o2, e2, hc2, n2, hd2⟩, _⟩ := I.tuple hB
  have hl2 := r2.length
  have hsz : its.toArray.size + its2.toArray.size ≤ sizeLine := by rw [List.size_toArray, List.size_toArray]; omega
  refine wpAny_call_entry F.slot_list_extend ⟨_, e, rfl⟩ F.entry_list_extend ?_ (F.args_list_extend_2 _ _)
  show wpAny _ _ (Builtin.List.listExtendWith (.ref l) (.ref b) .none) _ _ s
  unfold Builtin.List.listExtendWith
  refine wpAny_bind (wpAny_typeOf (T := "tuple") ⟨o2, e2, hc2⟩ ?_)
  rw [if_pos (by rw [show (Value.type "tuple" == Value.type "tuple") = true from by decide, Bool.or_true])]
  refine wpAny_bind (listItems_at e2 hd2 (wpAny_bind (listItems_at e rfl ?_)))
  rw [if_neg (by rw [notLongL hsz, Bool.and_false]; exact Bool.false_ne_true)]
  refine wpAny_bind (listUpdate_at e rfl ?_ (by rw [List.size_toArray]; omega) (by rw [Array.size_append]; omega))
  refine wpAny_pure ⟨_, rfl, .non, _, I.lset (its' := its ++ its2) hH e (by simp) (r.append r2) ?_, rfl, q⟩
  rw [List.length_append]
  omega
theorem qmt_extendT : QMt X "list.extend" (rExtendT X.K) := ⟨mt_extendT⟩
end
end L2

set_option maxRecDepth 100000
namespace L2
open PySem PySem.Spec PyProof.Rows
/-! ### try / except C, with no name -/
section
variable {X : Cx} {x : Str} {C : Addr} {np hpos pos : Pos} {body suite : List Stmt} {b₀ : Stmt} {tb : (St → XK) → TS} {th : TS}
end
end L2

set_option maxRecDepth 100000
namespace L2
open PySem PySem.Spec PyProof.Rows
section
variable {X : Cx} {pins : List (Addr × Obj)} {σ : List (Option V)} {H : Hp} {s : Shared} {h' : Heap}
/-- untracked records of ours (an iterator's) have turned -/
theorem Inv.turnedL {t' : Nat} {ch : List Addr} (I : Inv X pins σ H s) (hf : ∀ b ∈ ch, FpOk X pins H b) (k : ∀ b o, b ∉ ch → s.heap.get? b = some o → h'.get? b = some o) : Inv X pins σ H { s with heap := h', toks := t' } := by
  have nit : ∀ b u, H b = some u → b ∉ ch := fun b u e z => by rw [(hf b z).1] at e; cases e
  refine I.step (g' := s.gens) (d' := s.drawn) (ch := ch) (fun b hb => ?_) (fun b o _ _ hc e _ => k b o hc e) (fun b o _ _ hc e _ => ⟨o.slots, k b o hc e⟩) (fun _ _ _ _ n => n)
    (fun b o hc e => ⟨o, k b o hc e⟩) (fun _ _ e => e) (fun _ _ _ e => e) (fun b ps e => ⟨#[], by rw [e]; simp⟩) (fun m hm => ?_) (fun b u e => ?_) I.bare
  · obtain ⟨_, f1, _, f3, f4, f5⟩ := hf b hb
    exact ⟨f3, f1, f4, f5⟩
  · obtain ⟨o, es, ep, ho, r⟩ := hm
    exact ⟨o, es, ep, k _ o (fun z => (hf _ z).2.1 rfl) ho, r⟩
  · refine (I.hok b u e).stay (fun c v hc q => k c v ?_ q) (fun _ q => q) fun _ _ q => q
    rcases hc with z | z
    · rw [z]; exact nit b u e
    · exact nit c _ z
end
/-! ### for .., .. in zip(a, b) -/
noncomputable def Itz (K : PySem.W.Frag) (l1 l2 : Addr) : It :=
  ⟨fun i H => ∃ xs ys x y, SqL K H l1 xs ∧ SqL K H l2 ys ∧ xs[i]? = some x ∧ ys[i]? = some y,
   fun i H v H' => ∃ T x y, v = .ref T ∧ H T = none ∧ H' = upd H T (.tup [x, y]) ∧ (∀ xs, SqL K H l1 xs → xs[i]? = some x) ∧ ∀ ys, SqL K H l2 ys → ys[i]? = some y,
   fun i H => ∃ xs ys, SqL K H l1 xs ∧ SqL K H l2 ys ∧ min xs.length ys.length = i⟩
theorem turn_zip {P : Program} {w : World} {K : PySem.W.Frag} {elts : List Expr} {k : Nat} {pos : Pos} (z TI TO i1 i2 l1 l2 : Addr) (D : ZipApart z TI TO i1 i2 l1 l2) :
    Turn P w K (.Tuple elts k pos) (Itz K l1 l2) [z, TI, TO, i1, i2] z (fun i h => IsZip h z TI TO .none ∧ IsPair h TI (.ref i1) (.ref i2) ∧ (∃ a b, IsPair h TO a b) ∧ h.IsListIter i1 l1 i ∧ h.IsListIter i2 l2 i) where
  mem := by simp
  obj := fun i h st b hb => by
    obtain ⟨h1, h2, ⟨a, c, h3⟩, ⟨o4, e4, _, d4⟩, ⟨o5, e5, _, d5⟩⟩ := st
    have hb' : b = z ∨ b = TI ∨ b = TO ∨ b = i1 ∨ b = i2 := by simpa using hb
    rcases hb' with rfl | rfl | rfl | rfl | rfl
    · exact ⟨_, h1, fun v e => by cases e⟩
    · exact ⟨_, h2, fun v e => by cases e⟩
    · exact ⟨_, h3, fun v e => by cases e⟩
    · exact ⟨o4, e4, fun v e => by rw [d4] at e; cases e⟩
    · exact ⟨o5, e5, fun v e => by rw [d5] at e; cases e⟩
  keep := fun i h h' st kp => by
    obtain ⟨h1, h2, ⟨a, c, h3⟩, h4, h5⟩ := st
    exact ⟨kp z (by simp) _ h1, kp TI (by simp) _ h2, ⟨a, c, kp TO (by simp) _ h3⟩, h4.at fun o e => kp i1 (by simp) o e, h5.at fun o e => kp i2 (by simp) o e⟩
  item := by
    intro X hP hw hK hc i pins s σ H E I hf st hg
    subst hP hw hK
    obtain ⟨xs, ys, x, y, hq1, hq2, hx, hy⟩ := hg
    obtain ⟨its1, rv1, p1, hz1⟩ := I.list hq1
    obtain ⟨its2, rv2, p2, hz2⟩ := I.list hq2
    obtain ⟨u1, hu1, ru1⟩ := rv1.get hx
    obtain ⟨u2, hu2, ru2⟩ := rv2.get hy
    obtain ⟨s1, s2, s3, s4, s5⟩ := st
    have W := WalksT.zip2 (prog := X.prog) (w := X.w) (A := X.A) (I.ok.hd hc) z TI TO i1 i2 l1 l2 D its1.toArray its2.toArray
    have b1 : i < its1.length := (List.getElem?_eq_some_iff.mp hu1).1
    have b2 : i < its2.length := (List.getElem?_eq_some_iff.mp hu2).1
    refine W.item i s _ _ (by simp only [List.size_toArray]; omega) ⟨s1, s2, s3, s4, s5, p1.isList, p2.isList⟩ fun T vals h2 tk pv hT isT mid kp => ?_
    obtain ⟨a, b, ha, hb, rfl⟩ := pv
    have ea : a = u1 := by have : its1[i]? = some a := by simpa using ha
                           rw [hu1] at this; exact (Option.some.inj this).symm
    have eb : b = u2 := by have : its2[i]? = some b := by simpa using hb
                           rw [hu2] at this; exact (Option.some.inj this).symm
    subst ea eb
    have sub : ∀ c ∈ [z, TO, i1, i2], c ∈ [z, TI, TO, i1, i2] := fun c hc => by
      have : c = z ∨ c = TO ∨ c = i1 ∨ c = i2 := by simpa using hc
      rcases this with rfl | rfl | rfl | rfl <;> simp
    refine ⟨.ref T, rfl, W.go elts k pos i T _ _ _ mid fun h3 st3 kp3 => ?_⟩
    obtain ⟨t1, t2, t3, t4, t5, _, _⟩ := st3
    have J : Inv X pins σ H { s with heap := h3, toks := tk } := I.turnedL (ch := [z, TO, i1, i2]) (fun b hb => hf b (sub b hb)) fun b o hb e => kp3 b o hb (kp b o hb e)
    have hT0 : H T = none := I.hok.fresh hT
    have nT : T ∉ [z, TI, TO, i1, i2] := fun hm => by
      obtain ⟨o, e, _⟩ : ∃ o, s.heap.get? T = some o ∧ True := by
        have : T = z ∨ T = TI ∨ T = TO ∨ T = i1 ∨ T = i2 := by simpa using hm
        obtain ⟨a3, c3, h3⟩ := s3
        obtain ⟨o4, e4, _⟩ := s4
        obtain ⟨o5, e5, _⟩ := s5
        rcases this with rfl | rfl | rfl | rfl | rfl
        · exact ⟨_, s1, trivial⟩
        · exact ⟨_, s2, trivial⟩
        · exact ⟨_, h3, trivial⟩
        · exact ⟨_, e4, trivial⟩
        · exact ⟨_, e5, trivial⟩
      exact absurd (Heap.lt_size e) (Nat.not_lt.mpr hT)
    have isT3 : IsTup h3 T #[a, b] := by
      obtain ⟨o, e, r⟩ := isT
      exact ⟨o, kp3 T o (fun q => nT (sub T q)) e, r⟩
    have fp := I.fpOk (H' := H) hT hT0
    have news : s.heap.get? T = none := by
      cases e : s.heap.get? T with
      | none => rfl
      | some o => exact absurd (Heap.lt_size e) (Nat.not_lt.mpr hT)
    refine ⟨.ref T, upd H T (.tup [x, y]), J.track hT0 ?_ fp.2.1 fp.2.2.2.2.1 fp.2.2.2.2.2 ?_, rfl, ⟨T, x, y, rfl, hT0, rfl, fun zs hs => by rw [I.list_inj hs hq1]; exact hx, fun zs hs => by rw [I.list_inj hs hq2]; exact hy⟩, ⟨t1, t2, t3, t4, t5⟩, fun b hb => ?_⟩
    · cases e : X.s₀.heap.get? T with
      | none => rfl
      | some o => exact absurd (Heap.lt_size e) (Nat.not_lt.mpr (Nat.le_trans I.sz hT))
    · exact ⟨by show 2 ≤ sizeLine; rw [sizeLine_eq]; decide, [a, b], .cons ru1 (.cons ru2 .nil), isT3⟩
    · have nb : b ≠ T := fun e => nT (by rw [← e]; exact hb)
      rw [upd_ne nb]; exact (hf b hb).1
  done := by
    intro X hP hw hK hc i pins s σ H E I hf st hg
    subst hP hw hK
    obtain ⟨xs, ys, hq1, hq2, hi⟩ := hg
    obtain ⟨its1, rv1, p1, hz1⟩ := I.list hq1
    obtain ⟨its2, rv2, p2, hz2⟩ := I.list hq2
    obtain ⟨s1, s2, s3, s4, s5⟩ := st
    have W := WalksT.zip2 (prog := X.prog) (w := X.w) (A := X.A) (I.ok.hd hc) z TI TO i1 i2 l1 l2 D its1.toArray its2.toArray
    have en : min its1.toArray.size its2.toArray.size = i := by
      rw [List.size_toArray, List.size_toArray, ← rv1.length, ← rv2.length]; exact hi
    subst en
    refine W.done s _ _ ⟨s1, s2, s3, s4, s5, p1.isList, p2.isList⟩ fun h2 tk kp => ⟨rfl, I.turnedL (ch := [z, TO, i1, i2]) (fun b hb => hf b ?_) kp⟩
    have : b = z ∨ b = TO ∨ b = i1 ∨ b = i2 := by simpa using hb
    rcases this with rfl | rfl | rfl | rfl <;> simp
  self := fun _ _ _ _ _ st h => wpAny_pyIter_zip st.1 h
noncomputable def iZip (K : PySem.W.Frag) (ta : TA) : TI := fun σ H R => ta σ H fun vs H1 => ∃ l1 l2, vs = [.ref l1, .ref l2] ∧ (∃ xs, SqL K H1 l1 xs) ∧ (∃ ys, SqL K H1 l2 ys) ∧ R (Itz K l1 l2) H1
theorem pi_zip {X : Cx} {elts : List Expr} {k : Nat} {tp : Pos} {a b : Expr} {ta : TA} {p pos : Pos} (hg : Gl X "zip") (hm : X.mg "zip" = none) (ha : PA X [a, b] ta) (hs : starEach [a, b] X.env = [(false, eval a X.env), (false, eval b X.env)] := by rfl) (hs2 : starEach [b] X.env = [(false, eval b X.env)] := by rfl) :
    PI X (.Tuple elts k tp) (.Call (.Name "zip" p) [a, b] [] pos) (iZip X.K ta) := by
  intro pins s σ H R I h
  refine Call_ (ld_blt I hg hm bt_zip (PyProof.Rows.callWith_type1 (thn (ha pos pins s σ H _ I h) fun us s1 ⟨vs, H1, I1, r1, q1⟩ => ?_) (by rw [hs, hs2]) (by rw [hs2]; rfl)))
  obtain ⟨l1, l2, rfl, ⟨xs, hq1⟩, ⟨ys, hq2⟩, q⟩ := q1
  obtain ⟨u, v, rfl, ru, rv⟩ := vals2 r1
  cases ru
  cases rv
  obtain ⟨its1, _, p1, _⟩ := I1.list hq1
  obtain ⟨its2, _, p2, _⟩ := I1.list hq2
  have lt1 : l1 < s1.heap.objs.size := by obtain ⟨o, e, _⟩ := p1.isList; exact Heap.lt_size e
  have lt2 : l2 < s1.heap.objs.size := by obtain ⟨o, e, _⟩ := p2.isList; exact Heap.lt_size e
  have D := PySem.W.ktu_apart s1.heap.objs.size l1 l2 lt1 lt2
  refine call_zip_2 p1.isList p2.isList fun h5 hz hTI hTO hi1 hi2 _ kp => ?_
  refine wpAny_pyIter_zip hz ?_
  have I2 : Inv X pins σ H1 { s1 with heap := h5 } := I1.kept (t' := s1.toks) kp
  refine ⟨s1.heap.objs.size + 4, [s1.heap.objs.size + 4, s1.heap.objs.size + 2, s1.heap.objs.size + 3, s1.heap.objs.size, s1.heap.objs.size + 1], _, _, H1, rfl, I2, turn_zip _ _ _ _ _ l1 l2 D, ⟨hz, hTI, ⟨_, _, hTO⟩, hi1, hi2⟩, fun b hb => ?_, q⟩
  have hle : s1.heap.objs.size ≤ b := by
    have : b = s1.heap.objs.size + 4 ∨ b = s1.heap.objs.size + 2 ∨ b = s1.heap.objs.size + 3 ∨ b = s1.heap.objs.size ∨ b = s1.heap.objs.size + 1 := by simpa using hb
    rcases this with rfl | rfl | rfl | rfl | rfl <;> first | exact Nat.le_refl _ | exact Nat.le_add_right _ _
  exact I1.fpOk hle (I1.hok.fresh hle)
theorem qi_zip {X : Cx} {elts : List Expr} {k : Nat} {tp : Pos} {a b : Expr} {ta : TA} {p pos : Pos} (hg : Gl X "zip") (hm : X.mg "zip" = none) (ha : QA X [a, b] ta) (hs : starEach [a, b] X.env = [(false, eval a X.env), (false, eval b X.env)] := by rfl) (hs2 : starEach [b] X.env = [(false, eval b X.env)] := by rfl) :
    QI X (.Tuple elts k tp) (.Call (.Name "zip" p) [a, b] [] pos) (iZip X.K ta) := ⟨pi_zip hg hm ha.h hs hs2⟩
end L2

set_option maxRecDepth 100000
namespace RB
open PySem L2 PySem.Spec PyProof.Rows
/-! ### a reader: its text and its place -/
end RB

set_option maxRecDepth 100000
namespace RB
open PySem L2 PySem.Spec PyProof.Rows
/-! ### the figures of a number -/
end RB

set_option maxRecDepth 100000
namespace RB
open PySem L2 PySem.Spec PyProof.Rows
end RB

set_option maxRecDepth 100000
namespace RB
open PySem L2 PySem.Spec PyProof.Rows
/-! ### a recipe's core and the choices behind it -/
end RB

set_option maxRecDepth 100000
namespace RB
open PySem L2 PySem.Spec PyProof.Rows
/-! ### a list held against [] -/
theorem qe_dnewK {X : Cx} {pos : Pos} : QE X (.Dict [] [] pos) tDNewK := ⟨pe_dnewK⟩
theorem op_notB {X : Cx} : OpR X (compareOp .IsNot) (fun x y H Q => ∃ a b, x = .bl a ∧ y = .bl b ∧ Q (.bl (!decide (a = b))) H) := by
  intro pins s σ H x y v u Q I rx ry h
  obtain ⟨a, b, rfl, rfl, q⟩ := h
  cases rx
  cases ry
  exact wpAny_isNot_plain (by cases a <;> cases b <;> rfl) (fin_bl I q (by cases a <;> cases b <;> rfl))
theorem qop_notB {X : Cx} : QOp X (compareOp .IsNot) (fun x y H Q => ∃ a b, x = .bl a ∧ y = .bl b ∧ Q (.bl (!decide (a = b))) H) := ⟨op_notB⟩
noncomputable def rCatT2 (K : PySem.W.Frag) : R2 := fun x y H Q => ∃ a b xs ys, x = .ref a ∧ y = .ref b ∧ H a = some (.tup xs) ∧ H b = some (.tup ys) ∧ xs ≠ [] ∧ xs.length + ys.length ≤ sizeLine ∧
  ∀ p H', Same H H' → H' p = some (.tup (xs ++ ys)) → Q (.ref p) H'
theorem qop_catT2 {X : Cx} : QOp X (binaryOp .Add) (rCatT2 X.K) := ⟨fun pins s σ H x y v u Q I rx ry h => by
  obtain ⟨a, b, xs, ys, h1, h2, e, e2, h4, h5, q⟩ := h
  exact op_catT pins s σ H x y v u Q I rx ry ⟨a, b, xs, ys, h1, h2, SqT.of e, SqT.of e2, h4, h5, fun z => q a H (Same.refl _) (by subst z; rw [e]; simp), fun _ p hp => q p _ (same_new _ hp) upd_same⟩⟩

/-! ### things whose texts are short and plain -/
inductive AscT : Th → Prop where
  | non : AscT .non
  | bl (b : Bool) : AscT (.bl b)
  | int (i : Int) : AscT (.int i)
  | str {x : Str} (h : x.length ≤ 1000) (h2 : ∀ c ∈ x.cps.toList, c < 128) : AscT (.str x)
  | tup {ts : List Th} (hl : ts.length ≤ 1000) (h : ∀ t ∈ ts, AscT t) : AscT (.tup ts)
  | oth (T : String) : AscT (.oth T)
theorem AscT.short {t : Th} (h : AscT t) : ShortT t := by
  induction h with
  | non => exact .non
  | bl b => exact .bl b
  | int i => exact .int i
  | str h _ => exact .str (Nat.le_of_lt (small1000 h))
  | tup _ _ ih => exact .tup ih
  | oth T => exact .oth T
noncomputable def ascS (x : Str) : Bool := decide (x.length ≤ 1000) && x.cps.toList.all (fun c => decide (c < 128))
theorem AscT.lit {x : Str} (h : ascS x = true) : AscT (.str x) := by
  unfold ascS at h
  rw [Bool.and_eq_true, List.all_eq_true] at h
  exact .str (of_decide_eq_true h.1) fun c hc => of_decide_eq_true (h.2 c hc)
theorem AscT.name {x : Str} (h : GName x) : AscT (.str x) := .str (by have := h.2.1; omega) fun c hc => by have := h.2.2 c hc; unfold isLow at this; omega
theorem R.asc : ∀ (r : R), r.Good → AscT r.toTh
  | .num n, _ => .tup (Nat.le_of_ble_eq_true rfl) fun t ht => by
    rcases List.mem_cons.mp ht with rfl | ht
    · exact .lit (by decide +kernel)
    · have : t = .int n := by simpa using ht
      subst this; exact .int n
  | .rd x, h => .tup (Nat.le_of_ble_eq_true rfl) fun t ht => by
    rcases List.mem_cons.mp ht with rfl | ht
    · exact .lit (by decide +kernel)
    · have : t = .str x := by simpa using ht
      subst this; exact .name h
  | .bin op a b, h => .tup (Nat.le_of_ble_eq_true rfl) fun t ht => by
    rcases List.mem_cons.mp ht with rfl | ht
    · exact .lit (by cases op <;> decide +kernel)
    · rcases List.mem_cons.mp ht with rfl | ht
      · exact R.asc a h.1
      · have : t = b.toTh := by simpa using ht
        subst this; exact R.asc b h.2
  | .pick a b c, h => .tup (Nat.le_of_ble_eq_true rfl) fun t ht => by
    rcases List.mem_cons.mp ht with rfl | ht
    · exact .lit (by decide +kernel)
    · rcases List.mem_cons.mp ht with rfl | ht
      · exact R.asc a h.1
      · rcases List.mem_cons.mp ht with rfl | ht
        · exact R.asc b h.2.1
        · have : t = c.toTh := by simpa using ht
          subst this; exact R.asc c h.2.2
  | .cho a ns, h => .tup (Nat.le_of_ble_eq_true rfl) fun t ht => by
    rcases List.mem_cons.mp ht with rfl | ht
    · exact .lit (by decide +kernel)
    · rcases List.mem_cons.mp ht with rfl | ht
      · exact R.asc a h.1
      · have : t = .tup (ns.map Th.str) := by simpa using ht
        subst this
        refine .tup (by rw [List.length_map]; have := h.2.2.1; omega) fun t ht => ?_
        obtain ⟨x, hx, rfl⟩ := List.mem_map.mp ht
        exact .name (h.2.2.2 x hx)

/-! ### things while the lists at S may be changed -/

/-! ### how many recipes -/
noncomputable def R.nodes : R → Nat
  | .num _ => 1
  | .rd _ => 1
  | .bin _ a b => 1 + a.nodes + b.nodes
  | .pick a b c => 1 + a.nodes + b.nodes + c.nodes
  | .cho a _ => 1 + a.nodes
theorem good_fine : ∀ {r : R}, r.Good → r.Fine
  | .num _, _ => trivial
  | .rd x, h => ⟨h.2.1, fun c hc => by have := h.2.2 c hc; unfold isLow at this; omega⟩
  | .bin _ a b, h => ⟨good_fine h.1, good_fine h.2⟩
  | .pick a b c, h => ⟨good_fine h.1, good_fine h.2.1, good_fine h.2.2⟩
  | .cho a ns, h => ⟨good_fine h.1, h.2⟩
theorem szR_nodes : ∀ (n : Nat) (r : R), r.Good → r.depth ≤ n → szR n r = r.nodes
  | 0, r, _, hd => absurd r.depth_pos (by omega)
  | n + 1, r, h, hd => by
    rw [szR_succ n r (good_fine h)]
    cases r with
    | num _ => rfl
    | rd x =>
      show (match (if GName x then some [] else none : Option (List R)) with | none => 1000 | some ks => 1 + (ks.map (szR n)).sum) = 1
      rw [if_pos (show GName x from h)]; rfl
    | bin op a b =>
      have hd' : max a.depth b.depth + 1 ≤ n + 1 := hd
      show 1 + ([a, b].map (szR n)).sum = 1 + a.nodes + b.nodes
      simp [szR_nodes n a h.1 (by omega), szR_nodes n b h.2 (by omega)]
      omega
    | pick a b c =>
      have hd' : max a.depth (max b.depth c.depth) + 1 ≤ n + 1 := hd
      show 1 + ([a, b, c].map (szR n)).sum = 1 + a.nodes + b.nodes + c.nodes
      simp [szR_nodes n a h.1 (by omega), szR_nodes n b h.2.1 (by omega), szR_nodes n c h.2.2 (by omega)]
      omega
    | cho a ns =>
      have hd' : a.depth + 1 ≤ n + 1 := hd
      show 1 + ([a].map (szR n)).sum = 1 + a.nodes
      simp [szR_nodes n a h.1 (by omega)]
/-! ### contracts of the law's own words over any thing -/
noncomputable def spRec2 (m : Nat) : Sp := fun vs H Q _ => ∃ d c l deep k, vs = [.ref d, .int deep, .ref l] ∧ DeckAt H d c ∧ H l = some (.lst [.int k]) ∧ l ≠ d ∧ l ≠ c ∧ 1 ≤ deep ∧ deep ≤ m ∧
  ∀ a r k' H', r.Good → r.depth ≤ m → ((r.nodes : Int) = k - k' ∧ (1 ≤ k → -(2 * ((m : Int) - 1)) ≤ k') ∧ (k < 1 → k' = k - 1)) → But [d, c, l] H H' → DeckAt H' d c → H' l = some (.lst [.int k']) → IsR H' a r → Q (.ref a) H'
end RB

set_option maxRecDepth 100000
namespace RB
open PySem L2 PySem.Spec PyProof.Rows
end RB

set_option maxRecDepth 100000
namespace RB
open PySem L2 PySem.Spec PyProof.Rows
/-! ### rows of recipes, with their weight -/
end RB

set_option maxRecDepth 100000
namespace RB
open PySem L2 PySem.Spec PyProof.Rows
/-! ### recipes as data -/
noncomputable def R.dat : R → PyData
  | .num n => .tuple [.str "number", .int n]
  | .rd x => .tuple [.str "read", .str x]
  | .bin op a b => .tuple [.str op.word, a.dat, b.dat]
  | .pick a b c => .tuple [.str "pick", a.dat, b.dat, c.dat]
  | .cho a ns => .tuple [.str "choose", a.dat, .tuple (ns.map PyData.str)]
theorem IsR.dat {K : PySem.W.Frag} {H : Hp} {a : Addr} {r : R} (h : IsR H a r) : DatV K H (.ref a) r.dat := by
  induction h with
  | num e => exact .tup (SqT.of e) (.cons (.str _) (.cons (.int _) .nil))
  | rd e => exact .tup (SqT.of e) (.cons (.str _) (.cons (.str _) .nil))
  | bin e _ _ i1 i2 => exact .tup (SqT.of e) (.cons (.str _) (.cons i1 (.cons i2 .nil)))
  | pick e _ _ _ i1 i2 i3 => exact .tup (SqT.of e) (.cons (.str _) (.cons i1 (.cons i2 (.cons i3 .nil))))
  | cho e _ h2 i1 => exact .tup (SqT.of e) (.cons (.str _) (.cons i1 (.cons (.tup (SqT.of h2) (datVs_strs _)) .nil)))
theorem strOk_low {x : Str} (h : ∀ c ∈ x.cps.toList, c < 128) : PyData.strOk x = true := by
  show x.cps.all (· < 0x110000) = true
  rw [← Array.all_toList, List.all_eq_true]
  intro c hc
  exact decide_eq_true (by have := h c hc; omega)
theorem strOk_name {x : Str} (h : GName x) : PyData.strOk x = true := strOk_low fun c hc => by have := h.2.2 c hc; unfold isLow at this; omega
theorem strOk_word (op : Op) : PyData.strOk op.word = true := by cases op <;> decide +kernel
theorem lay_names : ∀ ns : List Str, (∀ x ∈ ns, GName x) → PyData.canLayAll0 (ns.map PyData.str) = true
  | [], _ => rfl
  | x :: r, h => by
    show (PyData.canLay0 (.str x) && PyData.canLayAll0 (r.map PyData.str)) = true
    rw [lay_names r fun y hy => h y (List.mem_cons_of_mem _ hy)]
    show (PyData.strOk x && true) = true
    rw [strOk_name (h x List.mem_cons_self)]; rfl
theorem R.lay : ∀ r : R, r.Good → r.dat.canLay0 = true
  | .num n, _ => by show (PyData.strOk "number" && (true && true)) = true; decide +kernel
  | .rd x, h => by
    show (PyData.strOk "read" && (PyData.strOk x && true)) = true
    rw [strOk_name h]; decide +kernel
  | .bin op a b, h => by
    show (PyData.strOk op.word && (a.dat.canLay0 && (b.dat.canLay0 && true))) = true
    rw [strOk_word, R.lay a h.1, R.lay b h.2]; rfl
  | .pick a b c, h => by
    show (PyData.strOk "pick" && (a.dat.canLay0 && (b.dat.canLay0 && (c.dat.canLay0 && true)))) = true
    rw [R.lay a h.1, R.lay b h.2.1, R.lay c h.2.2]; decide +kernel
  | .cho a ns, h => by
    show (PyData.strOk "choose" && (a.dat.canLay0 && (PyData.canLayAll0 (ns.map PyData.str) && true))) = true
    rw [R.lay a h.1, lay_names ns h.2.2.2]; decide +kernel
theorem R.dat_depth : ∀ r : R, r.dat.depth ≤ r.depth + 2
  | .num n => by simp [R.dat, R.depth, PyData.depth, PyData.depthAll]
  | .rd x => by simp [R.dat, R.depth, PyData.depth, PyData.depthAll]
  | .bin op a b => by
    have := R.dat_depth a
    have := R.dat_depth b
    simp only [R.dat, R.depth, PyData.depth, PyData.depthAll]; omega
  | .pick a b c => by
    have := R.dat_depth a
    have := R.dat_depth b
    have := R.dat_depth c
    simp only [R.dat, R.depth, PyData.depth, PyData.depthAll]; omega
  | .cho a ns => by
    have := R.dat_depth a
    have := depth_strs ns
    have := a.depth_pos
    simp only [R.dat, R.depth, PyData.depth, PyData.depthAll]; omega
theorem R.shaped {r : R} (h : r.Good) (hd : r.depth ≤ 8) : SeqAt.shaped r.dat = true := by
  show (r.dat.canLay0 && decide (r.dat.depth ≤ 64)) = true
  have := r.dat_depth
  rw [r.lay h, decide_eq_true (by omega)]; rfl
/-- two things that are the same data -/
noncomputable def rSame (K : PySem.W.Frag) (neg : Bool) : R2 := fun x y H Q => ∃ d, DatV K H x d ∧ DatV K H y d ∧ SeqAt.shaped d = true ∧ Q (.bl (!neg)) H
theorem shaped_lay {d : PyData} (h : SeqAt.shaped d = true) : d.canLay0 = true := by
  have h' : (d.canLay0 && decide (d.depth ≤ 64)) = true := h
  rw [Bool.and_eq_true] at h'
  exact h'.1
theorem qop_eqSame {X : Cx} (hu : X.A.units + 64 < cLine) : QOp X (compareOp .Eq) (rSame X.K false) := ⟨fun pins s σ H x y v u Q I rx ry h => by
  obtain ⟨d, h1, h2, h3, q⟩ := h
  have e := PySem.SeqAt.eqv_refl d (shaped_lay h3)
  exact op_eqD hu pins s σ H x y v u Q I rx ry ⟨d, d, h1, h2, h3, h3, by rw [e]; exact q⟩⟩
theorem qop_neSame {X : Cx} (hu : X.A.units + 64 < cLine) : QOp X (compareOp .NotEq) (rSame X.K true) := ⟨fun pins s σ H x y v u Q I rx ry h => by
  obtain ⟨d, h1, h2, h3, q⟩ := h
  have e := PySem.SeqAt.eqv_refl d (shaped_lay h3)
  exact op_neD hu pins s σ H x y v u Q I rx ry ⟨d, d, h1, h2, h3, h3, by rw [e]; exact q⟩⟩
end RB

set_option maxRecDepth 100000
namespace RB
open PySem L2 PySem.Spec PyProof.Rows
/-! ### the reader's mirror: what is read of a row of signs, and what is left -/
/-! ### the reader's state: the rest of its text -/
end RB

set_option maxRecDepth 100000
namespace RB
open PySem L2 PySem.Spec PyProof.Rows
end RB

set_option maxRecDepth 100000
namespace RB
open PySem L2 PySem.Spec PyProof.Rows
end RB

set_option maxRecDepth 100000
namespace RB
open PySem L2 PySem.Spec PyProof.Rows
/-! ### names in what is read -/
/-! ### read_recipe of anything -/
/-! ### texts that write none -/
/-! ### sums of a -/
end RB

set_option maxRecDepth 100000
namespace RB
open PySem L2 PySem.Spec PyProof.Rows PySem.NumText
/-! ### what the mirror reads, written again -/
end RB

set_option maxRecDepth 100000
namespace RB
open PySem L2 PySem.Spec PyProof.Rows PySem.NumText
/-! ### what is written is read -/
end RB

set_option maxRecDepth 100000
namespace L2
open PySem PySem.Spec PyProof.Rows
section
variable {prog : Program} {w : World} {A : Around} {E : Value → Shared → Prop}
/-! ### a, b, c = a list -/
theorem draw_lst {it l : Addr} {its : Array Value} (ne : l ≠ it) : ∀ (n i : Nat) (s : Shared) (Q : List Value → Shared → Prop), i + n ≤ its.size → s.heap.IsListIter it l i → s.heap.IsList l its →
    (∀ h', h'.IsListIter it l (i + n) → h'.IsList l its → (∀ b o, b ≠ it → s.heap.get? b = some o → h'.get? b = some o) → Q ((its.toList.drop i).take n) { s with heap := h' }) → wpAny (model prog w) A (draw (.ref it) n) Q E s
  | 0, i, s, Q, _, st, hl, fin => wpAny_pure (by simpa using fin s.heap st hl fun _ _ _ e => e)
  | n + 1, i, s, Q, le, st, hl, fin => by
    have lt : i < its.size := by omega
    show wpAny _ _ (pyNext (.ref it) >>= _) Q E s
    refine wpAny_bind (wpAny_pyNext_list_item st hl (x := its[i]) (Array.getElem?_eq_getElem lt) fun h1 st1 sb => ?_)
    have hl1 : h1.IsList l its := hl.at fun o e => (sb.2 l ne).trans e
    refine wpAny_bind (wpAny_holding (draw_lst ne n (i + 1) _ _ (by omega) st1 hl1 fun h2 st2 hl2 k2 => wpAny_pure ?_))
    have e1 : its.toList.drop i = its[i] :: its.toList.drop (i + 1) := by simp [List.drop_eq_getElem_cons, lt]
    have q := fin h2 (by rw [show i + (n + 1) = i + 1 + n by omega]; exact st2) hl2 fun b o hb e => k2 b o hb ((sb.2 b hb).trans e)
    rw [e1, List.take_succ_cons] at q
    exact q
theorem unpack_lst {l : Addr} {its : Array Value} {s : Shared} {targets : List (Bool × (Value → Sem Unit))} {Q : Unit → Shared → Prop} (calm : A.handled = none) (hl : s.heap.IsList l its) (hn : targets.length = its.size) (hs : targets.findIdx? (·.1) = none)
    (fin : ∀ h', (∀ b o, s.heap.get? b = some o → h'.get? b = some o) → wpAny (model prog w) A (assignInOrder (targets.map (·.2)) its.toList) Q E { s with heap := h' }) : wpAny (model prog w) A (unpack (.ref l) targets) Q E s := by
  have ne : l ≠ s.heap.objs.size := by obtain ⟨o, ho, _⟩ := hl; exact Nat.ne_of_lt (Heap.lt_size ho)
  unfold unpack
  rw [hn, hs]
  refine wpAny_bind (wpAny_holding ?_)
  unfold unpackItems
  refine wpAny_bind ?_
  unfold notIterableAtAll
  refine wpAny_bind (wpAny_specialOf hl.typeIs slot_list_iter.lookup (wpAny_pure ?_))
  rw [if_neg (by decide)]
  refine wpAny_bind (wpAny_holding (wpAny_pyIter_list hl ?_))
  refine wpAny_bind (wpAny_holding (draw_lst ne its.size 0 _ _ (by omega) ⟨_, Heap.get?_push_size _ rfl, rfl, rfl⟩ (hl.push _) fun h1 st1 hl1 k1 => ?_))
  have all : (its.toList.drop 0).take its.size = its.toList := by simp [List.take_of_length_le]
  rw [all, if_neg (by simp)]
  refine wpAny_bind (wpAny_holding (wpAny_pyNext_list_end calm st1 hl1 (by simp) fun h2 k2 => ?_))
  rw [if_neg (by simp)]
  refine wpAny_pure (fin h2 fun b o e => ?_)
  have nb : b ≠ s.heap.objs.size := Nat.ne_of_lt (Heap.lt_size e)
  exact k2 b o nb (k1 b o nb (Heap.get?_push_of_some _ e))
end
section
variable {X : Cx} {pos : Pos}
noncomputable def gLst (K : PySem.W.Frag) (n : Nat) (t : TGs) : TG := fun v σ H Q => ∃ a xs, v = .ref a ∧ SqL K H a xs ∧ xs.length = n ∧ t xs σ H Q
theorem pg_lst {es : List Expr} {k : Nat} {t : TGs} {n : Nat} (hc : X.calm = true) (h : PGs X es t) (hn : (assignEach es X.env).length = n := by rfl) (hst : (assignEach es X.env).findIdx? (·.1) = none := by rfl) : PG X (.Tuple es k pos) (gLst X.K n t) := by
  intro pins s σ H v u Q I r hw
  obtain ⟨a, xs, rfl, hq, hl, hw⟩ := hw
  cases r
  obtain ⟨its, rv, pl, hz⟩ := I.list hq
  rw [assign_Tuple]
  refine wpAny_bind (wpAny_standAt (unpack_lst (I.ok.hd hc) pl.isList (by simp [hn, ← hl, rv.length]) hst fun h' k => ?_))
  exact h pins _ σ H xs _ Q (I.kept (t' := s.toks) k) (by simpa using rv) hw
theorem qg_lst {es : List Expr} {k : Nat} {t : TGs} {n : Nat} (hc : X.calm = true) (h : QGs X es t) (hn : (assignEach es X.env).length = n := by rfl) (hst : (assignEach es X.env).findIdx? (·.1) = none := by rfl) : QG X (.Tuple es k pos) (gLst X.K n t) := ⟨pg_lst hc h.h hn hst⟩
end
end L2
namespace RB
open PySem L2 PySem.Spec PyProof.Rows
theorem eqv_names : ∀ xs ys : List Str, PyData.eqvAll (xs.map PyData.str) (ys.map PyData.str) = true → xs = ys
  | [], [], _ => rfl
  | [], _ :: _, h => by simp [PyData.eqvAll] at h
  | _ :: _, [], h => by simp [PyData.eqvAll] at h
  | x :: xs, y :: ys, h => by
    simp only [List.map_cons, PyData.eqvAll, PyData.eqv, Bool.and_eq_true, beq_iff_eq] at h
    rw [h.1, eqv_names xs ys h.2]
theorem word_inj {a b : Op} (h : a.word = b.word) : a = b := by
  revert h
  cases a <;> cases b <;> decide +kernel
theorem word_pick (op : Op) : op.word ≠ "pick" ∧ op.word ≠ "choose" ∧ op.word ≠ "number" ∧ op.word ≠ "read" := by cases op <;> decide +kernel
theorem eqv_hd {x y : Str} {xs ys : List PyData} (h : PyData.eqv (.tuple (.str x :: xs)) (.tuple (.str y :: ys)) = true) : x = y ∧ PyData.eqvAll xs ys = true := by
  simp only [PyData.eqv, PyData.eqvAll, Bool.and_eq_true, beq_iff_eq] at h
  exact h
theorem eqv_cn {x y : PyData} {xs ys : List PyData} (h : PyData.eqvAll (x :: xs) (y :: ys) = true) : PyData.eqv x y = true ∧ PyData.eqvAll xs ys = true := by
  rw [PyData.eqvAll, Bool.and_eq_true] at h
  exact h
theorem eqv_in {n m : Int} (h : PyData.eqv (.int n) (.int m) = true) : n = m := by simpa [PyData.eqv] using h
theorem eqv_st {n m : Str} (h : PyData.eqv (.str n) (.str m) = true) : n = m := by simpa [PyData.eqv] using h
theorem eqv_tp {n m : List PyData} (h : PyData.eqv (.tuple n) (.tuple m) = true) : PyData.eqvAll n m = true := by simpa [PyData.eqv] using h
noncomputable def R.wd : R → Str
  | .num _ => "number" | .rd _ => "read" | .bin op _ _ => op.word | .pick _ _ _ => "pick" | .cho _ _ => "choose"
noncomputable def R.tlD : R → List PyData
  | .num n => [.int n] | .rd x => [.str x] | .bin _ a b => [a.dat, b.dat] | .pick a b c => [a.dat, b.dat, c.dat] | .cho a ns => [a.dat, .tuple (ns.map PyData.str)]
theorem R.dat_wd (r : R) : r.dat = .tuple (.str r.wd :: r.tlD) := by cases r <;> rfl
theorem w_ne : ("number" : Str) ≠ "read" ∧ ("number" : Str) ≠ "pick" ∧ ("number" : Str) ≠ "choose" ∧ ("read" : Str) ≠ "pick" ∧ ("read" : Str) ≠ "choose" ∧ ("pick" : Str) ≠ "choose" := by decide +kernel
theorem R.eqv_eq (r : R) : ∀ s : R, PyData.eqv r.dat s.dat = true → r = s := by
  induction r with
  | num n =>
    intro s h
    rw [R.dat_wd, R.dat_wd s] at h
    obtain ⟨h1, h2⟩ := eqv_hd h
    cases s with
    | num m => rw [eqv_in (eqv_cn h2).1]
    | rd y => exact absurd h1 w_ne.1
    | bin p c d => exact absurd h1.symm (word_pick p).2.2.1
    | pick d e f => exact absurd h1 w_ne.2.1
    | cho b ms => exact absurd h1 w_ne.2.2.1
  | rd x =>
    intro s h
    rw [R.dat_wd, R.dat_wd s] at h
    obtain ⟨h1, h2⟩ := eqv_hd h
    cases s with
    | num m => exact absurd h1.symm w_ne.1
    | rd y => rw [eqv_st (eqv_cn h2).1]
    | bin p c d => exact absurd h1.symm (word_pick p).2.2.2
    | pick d e f => exact absurd h1 w_ne.2.2.2.1
    | cho b ms => exact absurd h1 w_ne.2.2.2.2.1
  | bin o a b i1 i2 =>
    intro s h
    rw [R.dat_wd, R.dat_wd s] at h
    obtain ⟨h1, h2⟩ := eqv_hd h
    cases s with
    | num m => exact absurd h1 (word_pick o).2.2.1
    | rd y => exact absurd h1 (word_pick o).2.2.2
    | bin p c d => rw [word_inj h1, i1 c (eqv_cn h2).1, i2 d (eqv_cn (eqv_cn h2).2).1]
    | pick d e f => exact absurd h1 (word_pick o).1
    | cho b ms => exact absurd h1 (word_pick o).2.1
  | pick a b c i1 i2 i3 =>
    intro s h
    rw [R.dat_wd, R.dat_wd s] at h
    obtain ⟨h1, h2⟩ := eqv_hd h
    cases s with
    | num m => exact absurd h1.symm w_ne.2.1
    | rd y => exact absurd h1.symm w_ne.2.2.2.1
    | bin p c d => exact absurd h1.symm (word_pick p).1
    | pick d e f => rw [i1 d (eqv_cn h2).1, i2 e (eqv_cn (eqv_cn h2).2).1, i3 f (eqv_cn (eqv_cn (eqv_cn h2).2).2).1]
    | cho b ms => exact absurd h1 w_ne.2.2.2.2.2
  | cho a ns i1 =>
    intro s h
    rw [R.dat_wd, R.dat_wd s] at h
    obtain ⟨h1, h2⟩ := eqv_hd h
    cases s with
    | num m => exact absurd h1.symm w_ne.2.2.1
    | rd y => exact absurd h1.symm w_ne.2.2.2.2.1
    | bin p c d => exact absurd h1.symm (word_pick p).2.1
    | pick d e f => exact absurd h1.symm w_ne.2.2.2.2.2
    | cho b ms => rw [i1 b (eqv_cn h2).1, eqv_names ns ms (eqv_tp (eqv_cn (eqv_cn h2).2).1)]
end RB

set_option maxRecDepth 100000
namespace L2
open PySem PySem.Spec PyProof.Rows
theorem for_zip {K : PySem.W.Frag} {a b : Addr} {xs ys : List V} {g : TG} {tb : TS} {D : Ends} {σ : St} {H : Hp} (Pv : Nat → St → Hp → Prop) (hxy : xs.length = ys.length) (h0 : Pv 0 σ H) (hl : ∀ i σ H, i ≤ xs.length → Pv i σ H → SqL K H a xs ∧ SqL K H b ys)
    (hs : ∀ i x y T σ H, xs[i]? = some x → ys[i]? = some y → H T = none → Pv i σ H → g (.ref T) σ (upd H T (.tup [x, y])) fun σ2 H2 => tb { D with nx := Pv (i + 1), ct := Pv (i + 1), bk := D.nx } σ2 H2) (hd : ∀ σ H, Pv xs.length σ H → D.nx σ H) :
    ∃ W : Nat → Nat → St → Hp → Prop, (∃ m, W 0 m σ H) ∧ ∀ i m σ H, W i m σ H →
      ((Itz K a b).stop i H ∧ D.nx σ H) ∨ ((Itz K a b).go i H ∧ ∃ N : St → Hp → Prop, (∀ σ' H', N σ' H' → ∃ m', m' < m ∧ W (i + 1) m' σ' H') ∧ ∀ x H', (Itz K a b).yld i H x H' → g x σ H' fun σ2 H2 => tb { D with nx := N, ct := N, bk := D.nx } σ2 H2) := by
  refine ⟨fun i m σ H => m = xs.length - i ∧ i ≤ xs.length ∧ Pv i σ H, ⟨xs.length, by simp, Nat.zero_le _, h0⟩, ?_⟩
  rintro i m σ H ⟨rfl, hi, p⟩
  obtain ⟨q1, q2⟩ := hl i σ H hi p
  by_cases hlt : i < xs.length
  · refine .inr ⟨⟨xs, ys, xs[i], ys[i]'(by omega), q1, q2, List.getElem?_eq_getElem hlt, List.getElem?_eq_getElem (by omega)⟩, Pv (i + 1), fun σ' H' z => ⟨_, by omega, rfl, hlt, z⟩, ?_⟩
    rintro x H' ⟨T, u, v, rfl, hT, rfl, e1, e2⟩
    exact hs i u v T σ H (e1 xs q1) (e2 ys q2) hT p
  · have e : i = xs.length := by omega
    subst e
    exact .inl ⟨⟨xs, ys, q1, q2, by omega⟩, hd σ H p⟩
end L2
namespace RB
open PySem L2 PySem.Spec PyProof.Rows
end RB

set_option maxRecDepth 100000
namespace RB
open PySem L2 PySem.Spec PyProof.Rows
end RB

set_option maxRecDepth 100000
namespace RB
open PySem L2 PySem.Spec PyProof.Rows
end RB

set_option maxRecDepth 100000
namespace RB
open PySem L2 PySem.Spec PyProof.Rows
/-! ### reads: rows of (name, number) -/
end RB
namespace RB
open PySem L2 PySem.Spec PyProof.Rows
end RB

set_option maxRecDepth 100000
namespace L2
open PySem PySem.Spec PyProof.Rows
end L2
namespace RB
open PySem L2 PySem.Spec PyProof.Rows
/-! ### rows of sums, as texts -/
end RB

set_option maxRecDepth 100000
namespace L2
open PySem PySem.Spec PyProof.Rows
end L2
namespace RB
open PySem L2 PySem.Spec PyProof.Rows
/-! ### the law's names -/
end RB

set_option maxRecDepth 100000
namespace RB
open PySem L2 PySem.Spec PyProof.Rows
/-! ### worths known so far, and what a recipe comes to by them -/
/-! ### the machine -/
/-! ### recipes whose products are no wall -/
end RB
namespace RB
open PySem L2 PySem.Spec PyProof.Rows
/-! ### on the way -/
/-! ### what a recipe does behind reads -/
end RB

set_option maxRecDepth 100000
namespace L2
open PySem PySem.Spec PyProof.Rows
section
variable {X : Cx} {i o : Expr} {ty td : TE} {pos : Pos}
theorem qt_din (hu : X.A.units + 1 < cLine) (hi : QE X i ty) (ho : QE X o td) (h1 : behindInMarks .In o = false := by rfl) : QT X (.Compare i [.In] [o] pos) (tB (tDIn ty td)) := ⟨pt_cmp (pc_din hu hi.h ho.h) h1⟩
end
end L2
namespace RB
open PySem L2 PySem.Spec PyProof.Rows
/-! ### steps on the heap -/
/-! ### how much is left -/
/-! ### a reckoning -/
end RB
namespace RB
open PySem L2 PySem.Spec PyProof.Rows
end RB
namespace RB
open PySem L2 PySem.Spec PyProof.Rows
end RB
namespace RB
open PySem L2 PySem.Spec PyProof.Rows
end RB

set_option maxRecDepth 100000
namespace L2
open PySem PySem.Spec PyProof.Rows
theorem key_rel {k : Key} {v : Value} (h : keyIs k v = true) : RelV (kV k) v := by
  rcases keyIs_shape h with ⟨i, t, rfl, rfl⟩ | ⟨x, t, rfl, rfl⟩
  · exact ⟨t, rfl⟩
  · exact ⟨t, rfl⟩
theorem vals_of_at : ∀ {ys : List V} {its : List Value}, its.length = ys.length → (∀ (i : Nat) (v : Value), its[i]? = some v → ∃ y, ys[i]? = some y ∧ RelV y v) → Vals ys its
  | [], [], _, _ => .nil
  | y :: ys, v :: its, hl, h => by
    obtain ⟨y', e, r⟩ := h 0 v rfl
    cases e
    exact .cons r (vals_of_at (by simpa using hl) fun i u hu => h (i + 1) u (by simpa using hu))
  | [], _ :: _, hl, _ => by simp at hl
  | _ :: _, [], hl, _ => by simp at hl
theorem kv_at {κ : Type} : ∀ {kvs : List (κ × V)} {vs : List (κ × Value)}, KV kvs vs → kvs.length = vs.length ∧ ∀ (i : Nat) (k : κ) (x : Value), vs[i]? = some (k, x) → ∃ y, kvs[i]? = some (k, y)
  | _, _, .nil => ⟨rfl, fun i k x h => by simp at h⟩
  | _, _, .cons (a := p) (b := q) h t => by
    obtain ⟨h1, h2⟩ := kv_at t
    refine ⟨by simp [h1], fun i k x e => ?_⟩
    cases i with
    | zero => cases e; exact ⟨p.2, by rw [List.getElem?_cons_zero]; cases p; simp only at h ⊢; rw [h.1]⟩
    | succ i => exact h2 i k x (by simpa using e)
section
variable {X : Cx}
end
end L2

set_option maxRecDepth 100000
namespace RB
open PySem L2 PySem.Spec PyProof.Rows
/-! ### the pools of the laws from k50 on -/
end RB
namespace RB
open PySem L2 PySem.Spec PyProof.Rows
end RB

set_option maxRecDepth 100000
namespace L2
open PySem PySem.Spec PyProof.Rows
/-! ### xs[::-1] -/
section
variable {X : Cx} {e st : Expr} {te ts : TE} {pos p2 : Pos}
end
end L2

set_option maxRecDepth 100000
namespace RB
open PySem L2 PySem.Spec PyProof.Rows
/-! ### the law's own way: reads are used up as they are looked for -/
/-! ### how big a worth may be -/
end RB

set_option maxRecDepth 100000
namespace L2
open PySem PySem.Spec PyProof.Rows
/-! ### for k in d: the dict is held fast from then on -/
section
variable {X : Cx} {tg : Expr}
end
/-! ### dict(d) -/
section
variable {X : Cx}
end
/-! ### alike, part by part -/
theorem kv_get {κ : Type} : ∀ {kvs : List (κ × V)} {vs : List (κ × Value)}, KV kvs vs → ∀ (i : Nat) (k : κ) (x : Value), vs[i]? = some (k, x) → ∃ y, kvs[i]? = some (k, y) ∧ RelV y x
  | _, _, .nil => fun i k x h => by simp at h
  | _, _, .cons (a := p) (b := q) h t => fun i k x e => by
    cases i with
    | zero => cases e; exact ⟨p.2, by rw [List.getElem?_cons_zero]; cases p; simp only at h ⊢; rw [h.1], h.2⟩
    | succ i => exact kv_get t i k x (by simpa using e)
section
variable {X : Cx}
/-! ### sorted: texts, fewer than 64 -/
end
end L2
namespace RB
open PySem L2 PySem.Spec PyProof.Rows
/-! ### (name, number) not in a row of reads -/
end RB
namespace L2
open PySem PySem.Spec PyProof.Rows
section
variable {X : Cx} {o e : Expr} {td ty : TE} {apos cpos : Pos}
end
end L2

set_option maxRecDepth 100000
namespace RB
open PySem L2 PySem.Spec PyProof.Rows
/-! ### the recipes of k31 to k41 -/
end RB

set_option maxRecDepth 100000
namespace RB
open PySem L2 PySem.Spec PyProof.Rows
end RB

set_option maxRecDepth 100000
namespace RB
open PySem L2 PySem.Spec PyProof.Rows
/-! ### dicts whose keys are texts -/
/-! ### names by number -/
/-! ### houses -/
end RB
namespace RB
open PySem L2 PySem.Spec PyProof.Rows
end RB
namespace RB
open PySem L2 PySem.Spec PyProof.Rows
section
variable {H : Hp} {kg kc : List (Key × V)} {n : Nat} {gv : Kn} {rc : Rn}
end
end RB

set_option maxRecDepth 100000
namespace RB
open PySem L2 PySem.Spec PyProof.Rows
/-! ### a recipe's worth, and the reads it took -/
/-! ### rows of reads that are known -/
/-! ### the law's state -/
section
variable {X : List Addr} {H H' : Hp} {st wd rd : Addr} {n : Nat} {gv : Kn} {rc : Rn} {kn : Kn} {rm : Rm}
end
end RB
namespace RB
open PySem L2 PySem.Spec PyProof.Rows
end RB

set_option maxRecDepth 100000
namespace RB
open PySem L2 PySem.Spec PyProof.Rows
section
variable {H : Hp} {s l h : Addr} {du wr : V}
end
section
variable {H H' : Hp} {s l h : Addr} {kn : Kn} {ps : List Rdp}
end
end RB
namespace RB
open PySem L2 PySem.Spec PyProof.Rows
end RB
namespace RB
open PySem L2 PySem.Spec PyProof.Rows
end RB

set_option maxRecDepth 100000
namespace RB
open PySem L2 PySem.Spec PyProof.Rows
end RB

set_option maxRecDepth 100000
namespace RB
open PySem L2 PySem.Spec PyProof.Rows
section
variable {X : List Addr} {H : Hp} {h g c st wd rd : Addr} {n : Nat} {gv : Kn} {rc : Rn} {kn : Kn} {rm : Rm}
end
end RB
namespace RB
open PySem L2 PySem.Spec PyProof.Rows
end RB
namespace RB
open PySem L2 PySem.Spec PyProof.Rows
/-! ### records put by -/
end RB
namespace RB
open PySem L2 PySem.Spec PyProof.Rows
end RB

set_option maxRecDepth 100000
namespace RB
open PySem L2 PySem.Spec PyProof.Rows
end RB
namespace RB
open PySem L2 PySem.Spec PyProof.Rows
end RB

set_option maxRecDepth 100000
namespace RB
open PySem L2 PySem.Spec PyProof.Rows
end RB

set_option maxRecDepth 100000
namespace RB
open PySem L2 PySem.Spec PyProof.Rows
end RB

set_option maxRecDepth 100000
namespace L2
open PySem PySem.Spec PyProof.Rows
/-! ### zip of two tuples -/
section
variable {prog : Program} {w : World} {A : Around} {E : Value → Shared → Prop} {s : Shared}
end
end L2

set_option maxRecDepth 100000
namespace L2
open PySem PySem.Spec PyProof.Rows
section
variable {prog : Program} {w : World} {A : Around} {E : Value → Shared → Prop} {s : Shared}
end
end L2

set_option maxRecDepth 100000
namespace RB
open PySem PySem.Spec PyProof.Rows L2
/-! ### things that are the same -/
end RB

set_option maxRecDepth 100000
namespace RB
open PySem L2 PySem.Spec PyProof.Rows
end RB

set_option maxRecDepth 100000
namespace RB
open PySem L2 PySem.Spec PyProof.Rows
end RB

set_option maxRecDepth 100000
namespace L2
open PySem PySem.Spec PyProof.Rows
/-! ### for k, x in enumerate(a list) -/
end L2

set_option maxRecDepth 100000
namespace L2
open PySem PySem.Spec PyProof.Rows
/-! ### for k, v in d.items(): the dict is held fast from then on -/
noncomputable def Iti (a : Addr) (o : Obj) (kvs : List (Key × V)) : It where
  go := fun i H => i < kvs.length ∧ H a = some (.frz o (.dK kvs))
  yld := fun i H x H' => ∃ T k v, x = .ref T ∧ H T = none ∧ kvs[i]? = some (k, v) ∧ H' = upd H T (.tup [kV k, v])
  stop := fun i H => kvs.length ≤ i ∧ H a = some (.frz o (.dK kvs))
namespace SI
theorem itE : entryFor table "dict_itemiterator.__iter__" = some Builtin.«dict_keyiterator.__iter__» :=
  entryFor_alias (id' := "dict_keyiterator.__iter__") (by kernel_rfl) rfl (by decide +kernel) (by kernel_rfl)
end SI
theorem turn_items {P : Program} {w : World} {K : PySem.W.Frag} {elts : List Expr} {k : Nat} {pos : Pos} {a it : Addr} {o : Obj} {kvs : List (Key × V)} {vs : List (Key × Value)} {es : Array DictEntry} {ep : Nat} (hne : a ≠ it) (hkv : KV kvs vs) (hx : o.ExactDict) (hdat : o.data = .dict es ep) (hk : PySem.KeysOf (mixKind P w) es) (hp : Pairs (mixKind P w) es.toList vs) (hn : (vs.map (·.1)).Nodup) :
    Turn P w K (.Tuple elts k pos) (Iti a o kvs) [it] it (fun i h => ∃ ok ov, IsItemIter h it a i kvs.length ep ok ov) where
  mem := by simp
  obj := fun i h st b hb => by
    have e : b = it := by simpa using hb
    subst e
    obtain ⟨ok, ov, e⟩ := st
    exact ⟨_, e, fun v z => by cases z⟩
  keep := fun i h h' st kp => by
    obtain ⟨ok, ov, e⟩ := st
    exact ⟨ok, ov, kp it (by simp) _ e⟩
  item := by
    intro X hP hw hK hc i pins s σ H E I hf st hg
    subst hP hw hK
    obtain ⟨hi, hH⟩ := hg
    obtain ⟨ho, _⟩ := (show ObjOk X.prog X.w H s.heap a (.frz o (.dK kvs)) from I.hok a _ hH)
    have hm : s.heap.DictAt (mixKind X.prog X.w) a vs ep := ⟨o, es, ho, hx, hdat, hk, hp, hn⟩
    obtain ⟨hl, hat⟩ := kv_at hkv
    have hi' : i < vs.length := by rw [← hl]; exact hi
    obtain ⟨⟨key0, x⟩, hxk⟩ : ∃ p, vs[i]? = some p := ⟨vs[i], by simp [hi']⟩
    obtain ⟨y, hy, ry⟩ := kv_get hkv i key0 x hxk
    obtain ⟨ok, ov, st⟩ := st
    rw [hl] at st
    refine wpAny_pyNext_items_item st hm hxk fun key h1 hkey hout hT hsz kp => ?_
    refine ⟨.ref s.heap.objs.size, rfl, wpAny_letOwnedTupleGo_items hout fun h2 hit2 sb => ?_⟩
    have hilt : it < s.heap.objs.size := Heap.lt_size st
    have J : Inv X pins σ H { s with heap := h2, toks := s.toks } := I.turnedL (ch := [it]) (fun b hb => hf b hb) fun b o hb z => by
      have hb' : b ≠ it := fun e => hb (by simp [e])
      exact sb.extBut b o hb' (kp b o hb' z)
    have hT0 : H s.heap.objs.size = none := I.hok.fresh (Nat.le_refl _)
    have nT : s.heap.objs.size ≠ it := Nat.ne_of_gt hilt
    have fp := I.fpOk (H' := H) (Nat.le_refl s.heap.objs.size) hT0
    refine ⟨.ref s.heap.objs.size, upd H s.heap.objs.size (.tup [kV key0, y]), J.track hT0 ?_ fp.2.1 fp.2.2.2.2.1 fp.2.2.2.2.2 ?_, rfl, ⟨_, key0, y, rfl, hT0, hy, rfl⟩, ⟨key, x, by rw [hl]; exact hit2⟩, fun b hb => ?_⟩
    · cases z : X.s₀.heap.get? s.heap.objs.size with
      | none => rfl
      | some o => exact absurd (Heap.lt_size z) (Nat.not_lt.mpr I.sz)
    · exact ⟨by show 2 ≤ sizeLine; rw [sizeLine_eq]; decide, [key, x], .cons (key_rel hkey) (.cons ry .nil), ⟨_, sb.extBut _ _ nT hT, rfl, 0, rfl⟩⟩
    · have nb : b ≠ s.heap.objs.size := fun z => nT (by rw [← z]; simpa using hb)
      rw [upd_ne nb]; exact (hf b hb).1
  done := by
    intro X hP hw hK hc i pins s σ H E I hf st hg
    subst hP hw hK
    obtain ⟨hi, hH⟩ := hg
    obtain ⟨ho, _⟩ := (show ObjOk X.prog X.w H s.heap a (.frz o (.dK kvs)) from I.hok a _ hH)
    have hm : s.heap.DictAt (mixKind X.prog X.w) a vs ep := ⟨o, es, ho, hx, hdat, hk, hp, hn⟩
    obtain ⟨hl, hat⟩ := kv_at hkv
    obtain ⟨ok, ov, st⟩ := st
    rw [hl] at st
    exact wpAny_pyNext_items_end (I.ok.hd hc) st hm (by rw [List.getElem?_eq_none_iff]; omega) fun h' eb => ⟨rfl, I.turnedL (t' := s.toks) (ch := [it]) (fun b hb => hf b hb) fun b o hb z => eb b o (fun e => hb (by simp [e])) z⟩
  self := fun A i s Q E st h => by
    obtain ⟨ok, ov, e⟩ := st
    have hT : s.TypeIs (.ref it) "dict_itemiterator" := ⟨_, e, rfl⟩
    refine wpAny_pyIter_slot hT PySem.F.slot_dict_itemiterator_iter (wpAny_call_entry PySem.F.slot_dict_itemiterator_iter hT SI.itE ?_ (PySem.F.args_dict_itemiterator_iter_1 _))
    show wpAny _ _ (ret (.ref it)) _ _ s
    exact wpAny_pure ⟨_, rfl, "dict_itemiterator", _, hT, PySem.F.slot_dict_itemiterator_next.lookup, h⟩
noncomputable def iItems (to : TE) : TI := fun σ H R => to σ H fun x H1 => ∃ a kvs, x = .ref a ∧ Rd H1 a (.dK kvs) ∧ ∀ o, R (Iti a o kvs) (upd H1 a (.frz o (.dK kvs)))
theorem pi_items {X : Cx} {elts : List Expr} {k : Nat} {tp : Pos} {o : Expr} {to : TE} {apos cpos : Pos} (ho : PE X o to)
    (hbase : attributeBase o "items" X.env (eval o X.env) = eval o X.env := by rfl) (hline : (apos.endLine == cpos.line) = true := by rfl) :
    PI X (.Tuple elts k tp) (.Call (.Attribute o "items" apos) [] [] cpos) (iItems to) := by
  intro pins s σ H R I h
  refine wpAny_Call_method0_late hbase hline (thn (ho pins s σ H _ I h) fun v s1 ⟨x, H1, I1, r1, a, kvs, ex, ha, q⟩ => ?_)
  subst ex
  obtain rfl : v = Value.ref a := r1
  obtain ⟨t1, t2, hlo⟩ := isD_at I1 (.inl ⟨kvs, ha⟩)
  refine ⟨"dict", "dict.items", PySem.F.plainAttrs_dict, PySem.F.slot_dict_items, PySem.F.type_dict_items, t1, t2, Calls.callWith_builtin rfl (PySem.evalArgs_none ?_)⟩
  have key : ∃ od es ep vs, s1.heap.get? a = some od ∧ od.ExactDict ∧ od.data = .dict es ep ∧ PySem.KeysOf (mixKind X.prog X.w) es ∧ KV kvs vs ∧ Pairs (mixKind X.prog X.w) es.toList vs ∧ (vs.map (·.1)).Nodup ∧ Inv X pins σ (upd H1 a (.frz od (.dK kvs))) { s1 with heap := s1.heap, toks := s1.toks } := by
    rcases ha with hq | ⟨od, hq⟩
    · obtain ⟨hz, lo, vs, hkv, hd⟩ := (show ObjOk X.prog X.w H1 s1.heap a (.dK kvs) from I1.hok a _ hq)
      obtain ⟨o, es, ep, ho, hx, hdat, hk, hp, hn⟩ := id hd
      exact ⟨o, es, ep, vs, ho, hx, hdat, hk, hkv, hp, hn, I1.write (x := a) (e := a) (h' := s1.heap) (by rw [hq]; exact trivial) (.inl rfl) (fun b u _ e => e) ⟨o, ho⟩ ⟨ho, hz, lo, vs, hkv, hd⟩⟩
    · obtain ⟨ho', hz, lo, vs, hkv, hd⟩ := (show ObjOk X.prog X.w H1 s1.heap a (.frz od (.dK kvs)) from I1.hok a _ hq)
      obtain ⟨o, es, ep, ho, hx, hdat, hk, hp, hn⟩ := id hd
      have eo : o = od := by rw [ho] at ho'; exact Option.some.inj ho'
      subst eo
      have eu : upd H1 a (.frz o (.dK kvs)) = H1 := by
        funext b
        by_cases z : b = a
        · subst z; rw [upd_same]; exact hq.symm
        · rw [upd_ne z]
      refine ⟨o, es, ep, vs, ho, hx, hdat, hk, hkv, hp, hn, ?_⟩
      rw [eu]
      exact I1
  obtain ⟨od, es, ep, vs, hod, hx, hdat, hk, hkv, hp, hn, I2⟩ := key
  obtain ⟨od', hod', hocls⟩ := id t1
  refine call_meetsIn PySem.F.slot_dict_items t1 PySem.F.entry_dict_items (PySem.F.args_dict_items_1 _) (meets_dict_items (mixKind X.prog X.w) a hlo) ⟨⟨vs, od, es, ep, hod, hx, hdat, hk, hp, hn⟩, ?_⟩
  have hl := (kv_at hkv).1
  have hlt : a < s1.heap.objs.size := Heap.lt_size hod
  have hk1 : ∀ b u, s1.heap.get? b = some u → (s1.heap.push { cls := .type "dict_items", data := .fields #[.ref a] }).get? b = some u := fun b u e => Heap.get?_push_of_some _ e
  have hsz : (s1.heap.push { cls := .type "dict_items", data := .fields #[.ref a] }).objs.size = s1.heap.objs.size + 1 := by simp [Heap.push]
  have hview : (s1.heap.push { cls := .type "dict_items", data := .fields #[.ref a] }).IsItemsView s1.heap.objs.size a := ⟨_, Heap.get?_push_size _ rfl, rfl, rfl⟩
  refine wpAny_pyIter_items (knd := mixKind X.prog X.w) (s := { s1 with heap := s1.heap.push { cls := .type "dict_items", data := .fields #[.ref a] } }) hview ⟨od, es, hk1 _ _ hod, hx, hdat, hk, hp, hn⟩ ?_
  have I3 := I2.kept (t' := s1.toks) (h' := (s1.heap.push { cls := .type "dict_items", data := .fields #[.ref a] }).push { cls := .type "dict_itemiterator", data := .fields #[.none, .bool false, .ref a, .int 0 0, .int vs.length 0, .int ep 0, .none, .none] }) fun b o e => Heap.get?_push_of_some _ (hk1 b o e)
  refine ⟨(s1.heap.push { cls := .type "dict_items", data := .fields #[.ref a] }).objs.size, [(s1.heap.push { cls := .type "dict_items", data := .fields #[.ref a] }).objs.size], _, _, _, rfl, I3, turn_items (by rw [hsz]; exact Nat.ne_of_lt (Nat.lt_succ_of_lt hlt)) hkv hx hdat hk hp hn, ⟨.none, .none, by rw [hl]; exact Heap.get?_push_size _ rfl⟩, fun b hb => ?_, q od⟩
  have e : b = (s1.heap.push { cls := .type "dict_items", data := .fields #[.ref a] }).objs.size := by simpa using hb
  subst e
  exact I2.fpOk (by rw [hsz]; exact Nat.le_succ _) (I2.hok.fresh (by rw [hsz]; exact Nat.le_succ _))
theorem qi_items {X : Cx} {elts : List Expr} {k : Nat} {tp : Pos} {o : Expr} {to : TE} {apos cpos : Pos} (ho : QE X o to)
    (hbase : attributeBase o "items" X.env (eval o X.env) = eval o X.env := by rfl) (hline : (apos.endLine == cpos.line) = true := by rfl) :
    QI X (.Tuple elts k tp) (.Call (.Attribute o "items" apos) [] [] cpos) (iItems to) := ⟨pi_items ho.h hbase hline⟩
theorem for_items {a : Addr} {o : Obj} {kvs : List (Key × V)} {g : TG} {tb : TS} {D : Ends} {σ : St} {H : Hp} (Pv : Nat → St → Hp → Prop) (h0 : Pv 0 σ H) (hl : ∀ i σ H, i ≤ kvs.length → Pv i σ H → H a = some (.frz o (.dK kvs)))
    (hs : ∀ i k v T σ H, kvs[i]? = some (k, v) → H T = none → Pv i σ H → g (.ref T) σ (upd H T (.tup [kV k, v])) fun σ2 H2 => tb { D with nx := Pv (i + 1), ct := Pv (i + 1), bk := D.nx } σ2 H2) (hd : ∀ σ H, Pv kvs.length σ H → D.nx σ H) :
    ∃ W : Nat → Nat → St → Hp → Prop, (∃ m, W 0 m σ H) ∧ ∀ i m σ H, W i m σ H →
      ((Iti a o kvs).stop i H ∧ D.nx σ H) ∨ ((Iti a o kvs).go i H ∧ ∃ N : St → Hp → Prop, (∀ σ' H', N σ' H' → ∃ m', m' < m ∧ W (i + 1) m' σ' H') ∧ ∀ x H', (Iti a o kvs).yld i H x H' → g x σ H' fun σ2 H2 => tb { D with nx := N, ct := N, bk := D.nx } σ2 H2) := by
  refine ⟨fun i m σ H => m = kvs.length - i ∧ i ≤ kvs.length ∧ Pv i σ H, ⟨kvs.length, by simp, Nat.zero_le _, h0⟩, ?_⟩
  rintro i m σ H ⟨rfl, hi, p⟩
  have q1 := hl i σ H hi p
  by_cases hlt : i < kvs.length
  · refine .inr ⟨⟨hlt, q1⟩, Pv (i + 1), fun σ' H' z => ⟨_, by omega, rfl, hlt, z⟩, ?_⟩
    rintro x H' ⟨T, k, v, rfl, hT, hx, rfl⟩
    exact hs i k v T σ H hx hT p
  · have e : i = kvs.length := by omega
    subst e
    exact .inl ⟨⟨Nat.le_refl _, q1⟩, hd σ H p⟩
end L2

set_option maxRecDepth 100000
namespace RB
open PySem L2 PySem.Spec PyProof.Rows
namespace SI
theorem lenD : typeLookup (.type "dict") "__len__" = pure (some (.builtin "dict.__len__")) := by
  rw [typeLookup_type, builtinLookup_eq_fast]
  kernel_rfl
theorem subD : isSubtype (.type "dict") (.type "dict") = pure true := by
  rw [isSubtype_type]
  kernel_rfl
end SI
section
variable {prog : Program} {w : World} {A : Around} {E : Value → Shared → Prop} {s : Shared}
theorem collect_dict {a : Addr} {vs : List (Key × Value)} {ep : Nat} {Q : List Value → Shared → Prop} (hh : A.handled = none) (hlo : (a == sysModules) = false) (hD : s.heap.DictAt (mixKind prog w) a vs ep) (hz : vs.length ≤ sizeLine)
    (q : ∀ (us : List Value) (h' : Heap) (tk : Nat), us.length = vs.length → (∀ (i : Nat) u, us[i]? = some u → ∃ k x, vs[i]? = some (k, x) ∧ (mixKind prog w).is k u = true) → (∀ b o, s.heap.get? b = some o → h'.get? b = some o) → s.heap.objs.size < h'.objs.size → Q us { s with heap := h', toks := tk }) :
    wpAny (model prog w) A (collect (.ref a)) Q E s := by
  obtain ⟨o, es, ho, hx, hdat, hk, hp, hn⟩ := id hD
  have hlt := Heap.lt_size ho
  unfold collect
  refine wpAny_bind (wpAny_runValue (codeAny_builtin PySem.F.entry_proto_collect ?_))
  rw [Around.under_plainId PySem.F.plain_proto_collect _]
  show wpAny _ A.in1 (newList [] >>= fun l => PySem.again (.builtin "list.__iadd__" ⟨[l, .ref a], []⟩)) _ _ s
  refine wpAny_bind (wpAny_newObj_type (wpAny_pure ⟨plainId_quiet PySem.F.plain_list_iadd _, codeAny_builtin PySem.F.entry_list_iadd ?_⟩))
  rw [Around.under_plainId PySem.F.plain_list_iadd _]
  show wpAny _ A.in1 (Builtin.List.listExtendWith (.ref s.heap.objs.size) (.ref a) (.ref s.heap.objs.size)) _ _ _
  unfold Builtin.List.listExtendWith
  have hD1 : (s.heap.push { cls := .type "list", data := .seq ([] : List Value).toArray }).DictAt (mixKind prog w) a vs ep := hD.push _
  have hT : Shared.TypeIs { s with heap := s.heap.push { cls := .type "list", data := .seq ([] : List Value).toArray } } (.ref a) "dict" := hD1.dictOf.typeIs
  refine wpAny_bind (wpAny_typeOf hT ?_)
  have e1 : Builtin.List.listSameRef (.ref s.heap.objs.size) (.ref a) = false := by simpa [Builtin.List.listSameRef] using Nat.ne_of_gt hlt
  rw [if_neg (by rw [e1]; decide)]
  refine wpAny_bind (wpAny_pyIter_dict (knd := mixKind prog w) hlo hD1 ?_)
  refine wpAny_bind (wpAny_holding ?_)
  unfold Builtin.List.listLengthHint
  have hD2 : ((s.heap.push { cls := .type "list", data := .seq ([] : List Value).toArray }).push { cls := .type "dict_keyiterator", data := .fields #[.ref a, .int 0 0, .int vs.length 0, .int ep 0] }).DictAt (mixKind prog w) a vs ep := hD1.push _
  have hT2 : Shared.TypeIs { s with heap := (s.heap.push { cls := .type "list", data := .seq ([] : List Value).toArray }).push { cls := .type "dict_keyiterator", data := .fields #[.ref a, .int 0 0, .int vs.length 0, .int ep 0] } } (.ref a) "dict" := hD2.dictOf.typeIs
  refine wpAny_bind (wpAny_specialOf hT2 SI.lenD ?_)
  generalize hid : ("dict.__len__" : String) = id0
  (fail_if_success (clear hid id0))
  wp_delta
  rw [show splitId id0 = some ("dict", "__len__") from by subst hid; decide +kernel]
  subst hid
  refine wpAny_bind (wpAny_isInstance (b := true) hT2 SI.subD ?_)
  rw [if_neg (by decide), if_pos (by decide)]
  refine wpAny_bind (wpAny_typeOf hT2 (wpAny_pure ?_))
  rw [if_pos (by decide)]
  refine wpAny_bind (wpAny_rule ?_)
  have hS1 : ((s.heap.push { cls := .type "list", data := .seq ([] : List Value).toArray }).push { cls := .type "dict_keyiterator", data := .fields #[.ref a, .int 0 0, .int vs.length 0, .int ep 0] }).get? s.heap.objs.size = some { cls := .type "list", dict := none, data := .seq #[] 0, slots := #[] } := Heap.get?_push_of_some _ (Heap.get?_push_size _ rfl)
  have hsz : (s.heap.push { cls := .type "list", data := .seq ([] : List Value).toArray }).objs.size = s.heap.objs.size + 1 := Heap.size_push _ _
  have hIt : ((s.heap.push { cls := .type "list", data := .seq ([] : List Value).toArray }).push { cls := .type "dict_keyiterator", data := .fields #[.ref a, .int 0 0, .int vs.length 0, .int ep 0] }).IsKeyIter (s.heap.push { cls := .type "list", data := .seq ([] : List Value).toArray }).objs.size a 0 vs.length ep := ⟨_, Heap.get?_push_size _ rfl, rfl, rfl⟩
  have hk2 : ∀ b o, s.heap.get? b = some o → ((s.heap.push { cls := .type "list", data := .seq ([] : List Value).toArray }).push { cls := .type "dict_keyiterator", data := .fields #[.ref a, .int 0 0, .int vs.length 0, .int ep 0] }).get? b = some o := fun b o z => Heap.get?_push_of_some _ (Heap.get?_push_of_some _ z)
  have W := Walks.dictKeys (prog := prog) (w := w) (A := A.in1) (knd := mixKind prog w) hh (s.heap.push { cls := .type "list", data := .seq ([] : List Value).toArray }).objs.size a (by rw [hsz]; exact Nat.ne_of_lt (Nat.lt_succ_of_lt hlt)) vs ep
  have hSf : s.heap.objs.size ∉ [(s.heap.push { cls := .type "list", data := .seq ([] : List Value).toArray }).objs.size, a] := fun z => by
    rw [hsz] at z
    rcases List.mem_cons.mp z with y | y
    · exact absurd y (Nat.ne_of_lt (Nat.lt_succ_self _))
    · exact absurd (List.mem_singleton.mp y) (Nat.ne_of_gt hlt)
  show wpAny _ A.in1 (Builtin.List.listTouch (.ref s.heap.objs.size) >>= fun _ => PySem.again (.builtin "list.extend.loop" ⟨[.ref s.heap.objs.size, .ref (s.heap.push { cls := .type "list", data := .seq ([] : List Value).toArray }).objs.size, .ref s.heap.objs.size], []⟩)) _ _ _
  generalize (s.heap.push { cls := .type "list", data := .seq ([] : List Value).toArray }).push { cls := .type "dict_keyiterator", data := .fields #[.ref a, .int 0 0, .int vs.length 0, .int ep 0] } = h2 at *
  generalize hI : (s.heap.push { cls := .type "list", data := .seq ([] : List Value).toArray }).objs.size = I at *
  refine wpAny_bind ?_
  show wpAny _ A.in1 (updateSeq s.heap.objs.size (·.push .none) >>= fun _ => updateSeq s.heap.objs.size (·.pop)) _ _ { s with heap := h2 }
  refine wpAny_bind (wpAny_updateSeq hS1 rfl (wpAny_updateSeq (Heap.get?_update_self (Obj.mapSeq (·.push Value.none)) hS1 rfl) rfl ?_))
  have hS3 := Heap.get?_update_self (Obj.mapSeq (·.pop)) (Heap.get?_update_self (Obj.mapSeq (·.push Value.none)) hS1 rfl) rfl
  have oth : ∀ b o, b ≠ s.heap.objs.size → h2.get? b = some o → ((h2.update s.heap.objs.size (Obj.mapSeq (·.push Value.none))).update s.heap.objs.size (Obj.mapSeq (·.pop))).get? b = some o :=
    fun b o hb e => (Heap.get?_update_other _ _ (Ne.symm hb)).trans ((Heap.get?_update_other _ _ (Ne.symm hb)).trans e)
  have Wc := W.toS
  refine wpAny_pure ⟨plainId_quiet PySem.F.plain_extend_loop _, codeAny_extend_loopS Wc hz _ hSf _ vs.length 0 _ _ _ rfl (Nat.zero_le _) (Wc.frame 0 { s with heap := h2 } _ s.toks ⟨hIt, hD2⟩ (Nat.le_refl _) fun b hb o e => oth b o (fun y => hSf (y ▸ hb)) e) hS3 (ItemsOf.nil _) fun s3 ac c' mv hS' hit => ?_⟩
  show wpAny _ A (load s.heap.objs.size >>= _) _ _ s3
  refine wpAny_bind (wpAny_load hS' ?_)
  obtain ⟨h5, g5, d5, tk5, os5⟩ := s3
  have g1 : g5 = s.gens := mv.gens
  have g2 : d5 = s.drawn := mv.drawn
  have g3 : os5 = s.os := mv.os
  subst g1 g2 g3
  refine wpAny_pure (q ac.toList h5 tk5 (by rw [Array.length_toList]; exact hit.1) (fun i u hu => ?_) (fun b o' z => ?_) (Heap.lt_size hS'))
  · rw [Array.getElem?_toList] at hu
    exact hit.2 i u hu
  · have hbl := Heap.lt_size z
    refine mv.heap b o' (fun y => ?_) (oth b o' (Nat.ne_of_lt hbl) (hk2 b o' z))
    rcases List.mem_cons.mp y with y | y
    · exact Nat.lt_irrefl _ (y ▸ hbl)
    · rw [List.mem_singleton.mp y, hsz] at hbl
      exact Nat.lt_irrefl _ (Nat.lt_of_succ_lt hbl)
end
end RB
namespace L2
open PySem PySem.Spec PyProof.Rows RB
section
variable {X : Cx} {tg : Expr}
/-- sorted(a dict whose keys are texts) -/
theorem call_sortedD (hc : X.calm = true) : CallR X (.builtin "sorted") (fun xs H Q => ∃ (a : Addr) (kvs : List (Key × V)) (ts : List Str), xs = [.ref a] ∧ H a = some (.dK kvs) ∧ kvs.map (·.1) = ts.map Sum.inr ∧ ∀ (p : Addr) (us : List Str), H p = none → us.Perm ts → sortedS us = true → Q (.ref p) (upd H p (.lst (us.map V.str)))) := by
  intro pins s σ H xs us Q I r h
  obtain ⟨a, kvs, ts, rfl, ha, hts, q⟩ := h
  obtain ⟨u, rfl, rx⟩ := vals1 r
  cases rx
  obtain ⟨hz, lo, vs, hkv, hd⟩ := (show ObjOk X.prog X.w H s.heap a (.dK kvs) from I.hok a _ ha)
  obtain ⟨ep, hat⟩ := hd.dictAt
  obtain ⟨hl, hvk⟩ := kv_at hkv
  have htl : ts.length = kvs.length := by have := congrArg List.length hts; simpa using this.symm
  refine TS.sorted_by (κ := PyProof.Rows.strKind) strKind_oneLt fun A' hA => collect_dict (hA.trans (I.ok.hd hc)) lo hat (by rw [← hl]; exact hz) fun us h1 tk hul hus hk hlt => ?_
  have hS : StrsAre us ts := by
    refine strs_of (vals_of_at (by rw [List.length_map, hul, ← hl, htl]) fun i v hv => ?_)
    obtain ⟨k, x, hx, hkk⟩ := hus i v hv
    obtain ⟨y, hy⟩ := hvk i k x hx
    have e1 : (kvs.map (·.1))[i]? = some k := by rw [List.getElem?_map, hy]; rfl
    rw [hts, List.getElem?_map] at e1
    cases ht : ts[i]? with
    | none => rw [ht] at e1; cases e1
    | some t =>
      rw [ht] at e1
      have ek : k = Sum.inr t := (Option.some.inj e1).symm
      subst ek
      exact ⟨.str t, by rw [List.getElem?_map, ht]; rfl, key_rel (k := Sum.inr t) (v := v) (show keyIs (Sum.inr t) v = true from hkk)⟩
  have hvl : us.length = ts.length := by rw [hul, ← hl, htl]
  have hz' : ts.length ≤ sizeLine := by rw [htl]; exact hz
  refine ⟨hS.keysOf, fun x y r e => keyKind_strs (by rw [← e]; exact hS), by rw [hvl]; exact hz', fun t t1 t2 => ?_⟩
  exact fin_sorted (d := s.drawn) I hk (Nat.le_of_lt hlt) hS (List.Perm.refl _) hz' q t t1 t2
theorem qc_sortedD (hc : X.calm = true) : QCall X (.builtin "sorted") (fun xs H Q => ∃ (a : Addr) (kvs : List (Key × V)) (ts : List Str), xs = [.ref a] ∧ H a = some (.dK kvs) ∧ kvs.map (·.1) = ts.map Sum.inr ∧ ∀ (p : Addr) (us : List Str), H p = none → us.Perm ts → sortedS us = true → Q (.ref p) (upd H p (.lst (us.map V.str)))) := ⟨call_sortedD hc⟩
/-- for x in a list or a tuple -/
noncomputable def iSeq (K : PySem.W.Frag) (tl : TE) : TI := fun σ H R => tl σ H fun x H1 => ∃ a, x = .ref a ∧ (((∃ xs, SqL K H1 a xs) ∧ R (Itl K a) H1) ∨ ((∃ xs, SqT K H1 a xs) ∧ R (Itt K a) H1))
theorem pi_seq {l : Expr} {tl : TE} (hl : PE X l tl) : PI X tg l (iSeq X.K tl) := by
  intro pins s σ H R I h
  refine thn (hl pins s σ H _ I h) fun v s1 ⟨x, H1, I1, r1, q1⟩ => ?_
  obtain ⟨a, rfl, q1⟩ := q1
  cases r1
  have fp : ∀ b ∈ [s1.heap.objs.size], FpOk X pins H1 b := fun b hb => by
    rw [List.mem_singleton.mp hb]
    exact I1.fpOk (Nat.le_refl _) (I1.hok.fresh (Nat.le_refl _))
  rcases q1 with ⟨⟨xs, hq⟩, q⟩ | ⟨⟨xs, hq⟩, q⟩
  · obtain ⟨its, rv, p, hz⟩ := I1.list hq
    exact wpAny_pyIter_list p.isList ⟨s1.heap.objs.size, [s1.heap.objs.size], _, _, H1, rfl, I1.kept (t' := s1.toks) fun b o e => Heap.get?_push_of_some _ e, turn_list a _, ⟨_, Heap.get?_push_size _ rfl, rfl, rfl⟩, fp, q⟩
  · obtain ⟨its, rv, p, hz⟩ := I1.tuple hq
    exact wpAny_pyIter_tuple (show s1.heap.IsTuple a its.toArray from p) ⟨s1.heap.objs.size, [s1.heap.objs.size], _, _, H1, rfl, I1.kept (t' := s1.toks) fun b o e => Heap.get?_push_of_some _ e, turn_tuple a _, ⟨_, Heap.get?_push_size _ rfl, rfl, rfl⟩, fp, q⟩
theorem qi_seq {l : Expr} {tl : TE} (hl : QE X l tl) : QI X tg l (iSeq X.K tl) := ⟨pi_seq hl.h⟩
/-- isinstance(a dict, held fast or not, dict) -/
theorem call_isiD : CallR X (.builtin "isinstance") (fun xs H Q => ∃ (a : Addr) (kvs : List (Key × V)), xs = [.ref a, .ty "dict"] ∧ Rd H a (.dK kvs) ∧ Q (.bl true) H) := by
  intro pins s σ H xs us Q I r h
  obtain ⟨a, kvs, rfl, ha, q⟩ := h
  obtain ⟨u, v, rfl, r1, r2⟩ := Vals.two r
  cases (show v = Value.type "dict" from r2)
  cases (show u = Value.ref a from r1)
  obtain ⟨_, _, vs, _, p⟩ := dk_rd I.hok ha
  obtain ⟨o, es, ep, h1, h2, _⟩ := p
  exact PySem.W.kia_one PySem.W.kitx_dict I.kIn ⟨o, h1, h2.1⟩ (kit_same _) (fun z => nomatch z) fun tk => ⟨.bl true, H, I.tok tk, rfl, q⟩
theorem qc_isiD : QCall X (.builtin "isinstance") (fun xs H Q => ∃ (a : Addr) (kvs : List (Key × V)), xs = [.ref a, .ty "dict"] ∧ Rd H a (.dK kvs) ∧ Q (.bl true) H) := ⟨call_isiD⟩
end
end L2
namespace RB
open PySem L2 PySem.Spec PyProof.Rows
noncomputable def GoodH (H : Hp) (kr : List (Key × V)) : Prop := ∀ p ∈ kr, ∃ x a r, p = (.inr x, .ref a) ∧ GName x ∧ IsR H a r ∧ r.Good ∧ r.nodes ≤ 100 ∧ r.depth ≤ 8
noncomputable def GoodN (kg : List (Key × V)) : Prop := ∀ p ∈ kg, ∃ x n, p = (.inr x, .int n) ∧ GName x
noncomputable def spHouse : Sp := fun vs H Q _ => ∃ (h g c : Addr) (kg kr : List (Key × V)), vs = [.ref h] ∧ H h = some (.tup [.ref g, .ref c]) ∧ Rd H g (.dK kg) ∧ Rd H c (.dK kr) ∧ g ≠ c ∧ GoodN kg ∧ GoodH H kr ∧
  ∀ H', But [g, c] H H' → Rd H' g (.dK kg) → Rd H' c (.dK kr) → Q (.bl (kr.all fun p => !(kg.any fun q => decide (q.1 = p.1)))) H'
end RB

set_option maxRecDepth 100000
namespace RB
open PySem L2 PySem.Spec PyProof.Rows
/-! ### the names in a recipe, rising, each once -/
noncomputable def R.names : R → List Str
  | .num _ => []
  | .rd x => [x]
  | .bin _ a b => a.names ++ b.names
  | .pick a b c => a.names ++ (b.names ++ c.names)
  | .cho a ns => a.names ++ ns
theorem names_le : ∀ {r : R}, r.Good → r.names.length ≤ 9 * r.nodes
  | .num _, _ => by simp [R.names]
  | .rd x, _ => by simp [R.names, R.nodes]
  | .bin _ a b, h => by
    have := names_le h.1
    have := names_le h.2
    simp only [R.names, R.nodes, List.length_append]; omega
  | .pick a b c, h => by
    have := names_le h.1
    have := names_le h.2.1
    have := names_le h.2.2
    simp only [R.names, R.nodes, List.length_append]; omega
  | .cho a ns, h => by
    have := names_le h.1
    have := h.2.2.1
    simp only [R.names, R.nodes, List.length_append]; omega
noncomputable def sl (a b : Str) : Prop := a.cps.toList < b.cps.toList
theorem sl_irr (a : Str) : ¬ sl a a := List.lt_irrefl _
theorem sl_trans {a b c : Str} (h1 : sl a b) (h2 : sl b c) : sl a c := List.lt_trans h1 h2
theorem str_cps {a b : Str} (h : a.cps.toList = b.cps.toList) : a = b := by
  obtain ⟨a⟩ := a; obtain ⟨b⟩ := b
  exact congrArg Str.mk (Array.toList_inj.mp h)
theorem sl_tot {a b : Str} (h1 : ¬ sl a b) (h2 : ¬ sl b a) : a = b := str_cps (List.le_antisymm (List.not_lt.mp h2) (List.not_lt.mp h1))
theorem sl_or {a b : Str} (h : ¬ sl b a) : a = b ∨ sl a b := by
  by_cases c : sl a b
  · exact .inr c
  · exact .inl (sl_tot c h)
/-- what is due of a row of names -/
noncomputable def IsDue (ns us : List Str) : Prop := us.Pairwise sl ∧ ∀ x, x ∈ us ↔ x ∈ ns
theorem due_unique : ∀ {us vs : List Str}, us.Pairwise sl → vs.Pairwise sl → (∀ x, x ∈ us ↔ x ∈ vs) → us = vs
  | [], [], _, _, _ => rfl
  | [], v :: vs, _, _, h => absurd ((h v).mpr List.mem_cons_self) (by simp)
  | u :: us, [], _, _, h => absurd ((h u).mp List.mem_cons_self) (by simp)
  | u :: us, v :: vs, hu, hv, h => by
    have hu' := List.pairwise_cons.mp hu
    have hv' := List.pairwise_cons.mp hv
    have e : u = v := by
      rcases List.mem_cons.mp ((h u).mp List.mem_cons_self) with z | z
      · exact z
      · rcases List.mem_cons.mp ((h v).mpr List.mem_cons_self) with y | y
        · exact y.symm
        · exact absurd (sl_trans (hu'.1 v y) (hv'.1 u z)) (sl_irr u)
    subst e
    congr 1
    refine due_unique hu'.2 hv'.2 fun x => ⟨fun z => ?_, fun z => ?_⟩
    · rcases List.mem_cons.mp ((h x).mp (List.mem_cons_of_mem _ z)) with y | y
      · subst y; exact absurd (hu'.1 x z) (sl_irr x)
      · exact y
    · rcases List.mem_cons.mp ((h x).mpr (List.mem_cons_of_mem _ z)) with y | y
      · subst y; exact absurd (hv'.1 x z) (sl_irr x)
      · exact y
theorem IsDue.eq {ns ns' us vs : List Str} (h1 : IsDue ns us) (h2 : IsDue ns' vs) (h : ∀ x, x ∈ ns ↔ x ∈ ns') : us = vs :=
  due_unique h1.1 h2.1 fun x => ((h1.2 x).trans (h x)).trans (h2.2 x).symm
theorem rising_pw : ∀ (l : List Str) (p : Str), risingS p l = true → (∀ x ∈ l, ¬ sl x p) ∧ l.Pairwise fun a b => ¬ sl b a
  | [], p, _ => ⟨fun x hx => absurd hx (by simp), List.Pairwise.nil⟩
  | y :: l, p, h => by
    have h' : (!ltCps y.cps.toList p.cps.toList && risingS y l) = true := h
    rw [Bool.and_eq_true] at h'
    have hy : ¬ sl y p := by
      have := h'.1
      rw [ltCps_eq] at this
      simpa [sl] using this
    obtain ⟨k1, k2⟩ := rising_pw l y h'.2
    refine ⟨fun x hx => ?_, List.pairwise_cons.mpr ⟨k1, k2⟩⟩
    rcases List.mem_cons.mp hx with rfl | hx
    · exact hy
    · intro z
      rcases sl_or hy with e | e
      · rw [e] at z; exact k1 x hx z
      · exact k1 x hx (sl_trans z e)
theorem sorted_pw {l : List Str} (h : sortedS l = true) : l.Pairwise fun a b => ¬ sl b a := by
  cases l with
  | nil => exact List.Pairwise.nil
  | cons p l =>
    obtain ⟨k1, k2⟩ := rising_pw l p h
    exact List.pairwise_cons.mpr ⟨k1, k2⟩
/-- sorted(set(..)) -/
theorem due_set {ns us : List Str} (h1 : us.Perm (metS [] ns)) (h2 : sortedS us = true) : IsDue ns us := by
  have hn : us.Nodup := h1.nodup_iff.mpr (metS_nd ns [] List.Pairwise.nil)
  refine ⟨((sorted_pw h2).and hn).imp fun h => ?_, fun x => ?_⟩
  · exact (sl_or h.1).resolve_left h.2
  · rw [h1.mem_iff, metS_mem]; simp
end RB

set_option maxRecDepth 100000
namespace RB
open PySem L2 PySem.Spec PyProof.Rows
inductive IsRq (H : Hp) : List Addr → List R → Prop where
  | nil : IsRq H [] []
  | cons {a : Addr} {r : R} {as : List Addr} {rs : List R} (h : IsR H a r) (t : IsRq H as rs) : IsRq H (a :: as) (r :: rs)
theorem IsRq.tups {H H' : Hp} (t : Tups H H') {as : List Addr} {rs : List R} (h : IsRq H as rs) : IsRq H' as rs := by
  induction h with
  | nil => exact .nil
  | cons h _ ih => exact .cons (h.tups t) ih
theorem IsRq.same {H H' : Hp} (t : Same H H') {as : List Addr} {rs : List R} (h : IsRq H as rs) : IsRq H' as rs := h.tups (Same.tups t)
theorem IsRq.len {H : Hp} {as : List Addr} {rs : List R} (h : IsRq H as rs) : as.length = rs.length := by
  induction h with
  | nil => rfl
  | cons _ _ ih => simp [ih]
theorem IsRq.app {H : Hp} {as bs : List Addr} {rs ss : List R} (h : IsRq H as rs) (k : IsRq H bs ss) : IsRq H (as ++ bs) (rs ++ ss) := by
  induction h with
  | nil => exact k
  | cons h _ ih => exact .cons h ih
theorem IsRq.cut {H : Hp} : ∀ {as : List Addr} {rs : List R} {a : Addr} {r : R}, IsRq H (as ++ [a]) (rs ++ [r]) → IsRq H as rs ∧ IsR H a r
  | [], [], _, _, .cons h .nil => ⟨.nil, h⟩
  | [], r' :: rs, a, r, h => by have := h.len; simp at this
  | a' :: as, [], a, r, h => by have := h.len; simp at this
  | a' :: as, r' :: rs, a, r, .cons h t => ⟨.cons h (IsRq.cut t).1, (IsRq.cut t).2⟩
noncomputable def R.kidL : R → List R
  | .num _ => []
  | .rd _ => []
  | .bin _ a b => [a, b]
  | .pick a b c => [a, b, c]
  | .cho a _ => [a]
noncomputable def R.ownN : R → List Str
  | .rd x => [x]
  | .cho _ ns => ns
  | _ => []
noncomputable def allN (rs : List R) : List Str := (rs.map R.names).flatten
noncomputable def allK (rs : List R) : Nat := (rs.map R.nodes).sum
theorem names_kids (r : R) : r.names.Perm (r.ownN ++ allN r.kidL) := by
  cases r with
  | num n => exact List.Perm.refl _
  | rd x => simp [R.names, R.ownN, allN, R.kidL]
  | bin op a b => simp [R.names, R.ownN, allN, R.kidL]
  | pick a b c => simp [R.names, R.ownN, allN, R.kidL]
  | cho a ns => simpa [R.names, R.ownN, allN, R.kidL] using List.perm_append_comm
theorem nodes_kids (r : R) : r.nodes = 1 + allK r.kidL := by
  cases r <;> simp [R.nodes, allK, R.kidL] <;> omega
theorem allN_app (a b : List R) : allN (a ++ b) = allN a ++ allN b := by simp [allN]
theorem allK_app (a b : List R) : allK (a ++ b) = allK a + allK b := by simp [allK]
theorem allK_len : ∀ (rs : List R), rs.length ≤ allK rs
  | [] => Nat.le_refl _
  | r :: rs => by
    have := allK_len rs
    have e : allK (r :: rs) = r.nodes + allK rs := by simp [allK]
    have h : 1 ≤ r.nodes := by cases r <;> simp [R.nodes] <;> omega
    rw [e, List.length_cons]; omega
theorem IsRq.at {H : Hp} : ∀ {as : List Addr} {rs : List R}, IsRq H as rs → ∀ {i : Nat} {x : V}, (as.map V.ref)[i]? = some x → ∃ a r, x = .ref a ∧ rs[i]? = some r ∧ IsR H a r
  | _, _, .nil, i, x, h => by simp at h
  | _, _, .cons (a := a) (r := r) h t, 0, x, e => ⟨a, r, by simpa using e.symm, rfl, h⟩
  | _, _, .cons h t, i + 1, x, e => by
    obtain ⟨b, q, e1, e2, e3⟩ := IsRq.at t (i := i) (x := x) (by simpa using e)
    exact ⟨b, q, e1, by simpa using e2, e3⟩
theorem shaped_nm2 {ns : List Str} (h : ∀ x ∈ ns, GName x) : SeqAt.shaped (.list (ns.map PyData.str)) = true := by
  have := depth_strs ns
  have h4 : (PyData.list (ns.map PyData.str)).depth ≤ 64 := by simp only [PyData.depth]; omega
  have h5 : (PyData.list (ns.map PyData.str)).canLay0 = true := by simp only [PyData.canLay0]; exact lay_names ns h
  show (_ && decide _) = true
  rw [h5, decide_eq_true h4]; rfl
noncomputable def spWithR : Sp := fun vs H Q _ => ∃ a r, vs = [.ref a] ∧ IsR H a r ∧ ∀ p as H', Same H H' → H' p = some (.tup (as.map V.ref)) → IsRq H' as r.kidL → Q (.ref p) H'
noncomputable def spNames : Sp := fun vs H Q _ => ∃ a r, vs = [.ref a] ∧ IsR H a r ∧ r.names.length ≤ 1000 ∧ r.nodes ≤ 1000 ∧ ∀ p us H', Same H H' → H p = none → H' p = some (.lst (us.map V.str)) → IsDue r.names us → Q (.ref p) H'
end RB

set_option maxHeartbeats 4000000
namespace K05
open PySem L2 PySem.Spec PyProof.Rows RB
local macro_rules | `(tactic| walk_at "ne") => `(tactic| first | assumption | exact Ne.symm (by assumption) | exact ne_of_none (by assumption) (by assumption) | exact Ne.symm (ne_of_none (by assumption) (by assumption)))
local macro_rules | `(tactic| walk_at "heap") => `(tactic| first | assumption | exact upd_same | (refine (upd_ne (by walk_at "ne")).trans ?_; walk_at "heap"))
local macro_rules | `(tactic| walk_at "side") => `(tactic| first | with_reducible rfl | rfl | assumption | exact SqL.of (by walk_at "heap") | exact SqT.of (by walk_at "heap") | exact Or.inl (SqL.of (by walk_at "heap")) | exact Or.inr (SqT.of (by walk_at "heap")) | exact TyOf.str _ | exact TyOf.int _ | exact TyOf.bl _ | exact TyOf.tup (by walk_at "heap") | exact Or.inl ⟨rfl, _, SqL.of (by walk_at "heap")⟩ | exact Or.inl ⟨_, SqL.of (by walk_at "heap"), rfl⟩ | exact kit_same _ | exact Or.inl (by assumption) | exact Or.inr (by assumption) | walk_at "heap" | omega | (show _ ≤ sizeLine; decide) | (show _ < sizeLine; decide) | exact Or.inr ⟨by decide, by decide⟩ | exact Or.inl ⟨by decide, by decide⟩ | exact Or.inl ⟨by omega, by omega⟩ | exact Or.inr ⟨by omega, by omega⟩ | exact ⟨by omega, by decide⟩ | exact ⟨by omega, by assumption⟩ | exact ⟨by decide, by decide, by decide⟩ | exact ⟨_, SqT.of (by walk_at "heap")⟩ | exact ⟨_, SqL.of (by walk_at "heap")⟩ | (intro z; exact absurd (show (1 : Nat) = 0 from z.1) (by decide)) | (show Nat.log2 _ < 9000; decide +kernel) | ((rw [sizeLine_eq]); (try simp only [len_app]); omega) | exact Nat.le_of_lt (small1000 (by (simp only [List.length_cons, List.length_nil]); omega)) | decide +kernel)
local macro_rules | `(tactic| walk_at "v") => `(tactic| first
  | ((apply Exists.intro); (repeat apply Exists.intro); (refine And.intro ?_ ?_); walk_at "side")
  | ((refine And.intro ?_ ?_); walk_at "side"))
local macro_rules | `(tactic| walk_at "vs") => `(tactic| repeat walk_at "v")

noncomputable def top (i : Nat) : Stmt := PySem.Challenge.pw_madeagain_k05_whole_recipes_put_together.main.body.getD i (.Pass ⟨0, 0, 0, 0⟩)

section
variable {P : Program} {w : World} {K : PySem.W.Frag} {mg : Str → Option Value} {base : Heap}
noncomputable abbrev s_is_whole_number : Stmt := top 7
theorem sc_is_whole_number : FnScope ["thing"] ["thing"] (defScope s_is_whole_number) := ⟨rfl, rfl, rfl, by decide +kernel, rfl, by decide +kernel, by decide +kernel⟩
theorem gl_is_whole_number_isinstance : (defScope s_is_whole_number).names.lookup ("isinstance" : Str) = some NameKind.globalImplicit := by decide +kernel
theorem gl_is_whole_number_bool : (defScope s_is_whole_number).names.lookup ("bool" : Str) = some NameKind.globalImplicit := by decide +kernel
theorem nn_is_whole_number_bool : ("bool" : Str) ≠ "__name__" := by decide +kernel
theorem db_is_whole_number_bool : (("bool" : Str) == ("__debug__" : Str)) = false := by decide +kernel
theorem vo_is_whole_number_thing : VarOk (defScope s_is_whole_number) "thing" := by decide +kernel
theorem nn_is_whole_number_isinstance : ("isinstance" : Str) ≠ "__name__" := by decide +kernel
theorem db_is_whole_number_isinstance : (("isinstance" : Str) == ("__debug__" : Str)) = false := by decide +kernel
theorem gl_is_whole_number_int : (defScope s_is_whole_number).names.lookup ("int" : Str) = some NameKind.globalImplicit := by decide +kernel
theorem nn_is_whole_number_int : ("int" : Str) ≠ "__name__" := by decide +kernel
theorem db_is_whole_number_int : (("int" : Str) == ("__debug__" : Str)) = false := by decide +kernel
theorem ok_is_whole_number {f : Addr} {fd : FuncData} (T_is_whole_number : FnT K mg "is_whole_number" s_is_whole_number ["thing"] f fd) (T : Blt mg) (kd : Kinds K) : FnOk P w K mg base CX0 1 f fd ["thing"] (spWhole K) := by
  refine T_is_whole_number.F.okQ sc_is_whole_number (fun vs H Q E h => ?_) (fun cdv A outer s H vs Q E hr h => ?_)
  · obtain ⟨v, t, rfl, _⟩ := h
    rfl
  obtain ⟨v, t, rfl, ht, q⟩ := h
  refine ⟨_, (qss_one (qs_ret (qe_and (qe_callB qc_isi gl_is_whole_number_isinstance T.b_isinstance bt_isinstance (qa_N (qe_var 0 vo_is_whole_number_thing) (qa_N (qe_bltn (v := .ty "int") gl_is_whole_number_int T.b_int bt_int rfl nn_is_whole_number_int db_is_whole_number_int) qa_nil)) nn_is_whole_number_isinstance db_is_whole_number_isinstance) (qe_one (qe_not (qe_callB qc_isi gl_is_whole_number_isinstance T.b_isinstance bt_isinstance (qa_N (qe_var 0 vo_is_whole_number_thing) (qa_N (qe_bltn (v := .ty "bool") gl_is_whole_number_bool T.b_bool bt_bool rfl nn_is_whole_number_bool db_is_whole_number_bool) qa_nil)) nn_is_whole_number_isinstance db_is_whole_number_isinstance)))))), ?_⟩
  have h1 := ht.ty
  have h2 := ht.isi kd (c := "int") (by simp [tys])
  have h3 := ht.isi kd (c := "bool") (by simp [tys])
  walk_at "vs"
  cases ht with
  | bl b => walk_at "vs"; exact q
  | int i => walk_at "vs"; exact q
  | non => exact q
  | str x => exact q
  | tup e h => exact q
  | oth h hT k => rcases hT with rfl | rfl <;> exact q
noncomputable abbrev s_is_name : Stmt := top 8
theorem sc_is_name : FnScope ["thing"] ["thing"] (defScope s_is_name) := ⟨rfl, rfl, rfl, by decide +kernel, rfl, by decide +kernel, by decide +kernel⟩
theorem gl_is_name_len : (defScope s_is_name).names.lookup ("len" : Str) = some NameKind.globalImplicit := by decide +kernel
theorem vo_is_name_thing : VarOk (defScope s_is_name) "thing" := by decide +kernel
theorem nn_is_name_len : ("len" : Str) ≠ "__name__" := by decide +kernel
theorem db_is_name_len : (("len" : Str) == ("__debug__" : Str)) = false := by decide +kernel
theorem gl_is_name_MOST_LETTERS : (defScope s_is_name).names.lookup ("MOST_LETTERS" : Str) = some NameKind.globalImplicit := by decide +kernel
theorem db_is_name_MOST_LETTERS : (("MOST_LETTERS" : Str) == ("__debug__" : Str)) = false := by decide +kernel
theorem gl_is_name_isinstance : (defScope s_is_name).names.lookup ("isinstance" : Str) = some NameKind.globalImplicit := by decide +kernel
theorem gl_is_name_str : (defScope s_is_name).names.lookup ("str" : Str) = some NameKind.globalImplicit := by decide +kernel
theorem nn_is_name_str : ("str" : Str) ≠ "__name__" := by decide +kernel
theorem db_is_name_str : (("str" : Str) == ("__debug__" : Str)) = false := by decide +kernel
theorem nn_is_name_isinstance : ("isinstance" : Str) ≠ "__name__" := by decide +kernel
theorem db_is_name_isinstance : (("isinstance" : Str) == ("__debug__" : Str)) = false := by decide +kernel
theorem gl_is_name_all : (defScope s_is_name).names.lookup ("all" : Str) = some NameKind.globalImplicit := by decide +kernel
theorem db_is_name_LETTERS : (("LETTERS" : Str) == ("__debug__" : Str)) = false := by decide +kernel
theorem nn_is_name_all : ("all" : Str) ≠ "__name__" := by decide +kernel
theorem db_is_name_all : (("all" : Str) == ("__debug__" : Str)) = false := by decide +kernel
theorem ok_is_name {f : Addr} {fd : FuncData} {tL tM : Tok} (T_is_name : FnT K mg "is_name" s_is_name ["thing"] f fd) (T : Blt mg) (kd : Kinds K) (mLT : mg "LETTERS" = some (.str "abcdefghijklmnopqrstuvwxyz" tL)) (mML : mg "MOST_LETTERS" = some (.int 8 tM)) :
    FnOk P w K mg base CX0 1 f fd ["thing"] (spIsName K) := by
  refine T_is_name.F.okQ sc_is_name (fun vs H Q E h => ?_) (fun cdv A outer s H vs Q E hr h => ?_)
  · obtain ⟨v, t, rfl, _⟩ := h
    rfl
  obtain ⟨v, t, rfl, ht, hsh, q⟩ := h
  refine ⟨_, (qss_cons (qs_if (qt_w (qw_or (qt_not (qt_val (qe_callB qc_isi gl_is_name_isinstance T.b_isinstance bt_isinstance (qa_N (qe_var 0 vo_is_name_thing) (qa_N (qe_bltn (v := .ty "str") gl_is_name_str T.b_str bt_str rfl nn_is_name_str db_is_name_str) qa_nil)) nn_is_name_isinstance db_is_name_isinstance))) (qw_or1 (qt_not (qt_chain qop_le qop_le qe_int (qe_callB qc_len_str gl_is_name_len T.b_len bt_len (qa_N (qe_var 0 vo_is_name_thing) qa_nil) nn_is_name_len db_is_name_len) (qe_glob (v := .int 8) gl_is_name_MOST_LETTERS mML ⟨_, rfl⟩ db_is_name_MOST_LETTERS)))))) (qss_one (qs_ret qe_bl)) qss_nil)
    (qss_one (qs_ret (qe_callB (qc_allB rfl) gl_is_name_all T.b_all bt_all (qa_M (qe_comp rfl (n := 1) (fr := []) (N := ["sign"]) (cs_mk (scX := defScope s_is_name) (NX := ["thing"]) rfl rfl (by decide +kernel)) (qi_str (qe_var 0 vo_is_name_thing)) (fun _ _ _ _ _ => (qgx (i := 0) (show List.Nodup (α := Str) ["sign"] by decide) (locC (by decide +kernel)))) (fun _ _ _ _ _ => qi_nil) (fun _ _ _ _ _ => (qe_cmp qop_in_str (qe_var 0 (VarC.ok (by decide +kernel))) (qe_glob (v := .str "abcdefghijklmnopqrstuvwxyz") (glC (by decide +kernel)) mLT ⟨_, rfl⟩ db_is_name_LETTERS) rfl))) qa_nil) nn_is_name_all db_is_name_all)))), ?_⟩
  have h1 := ht.ty
  have h2 := ht.isi kd (c := "str") (by simp [tys])
  walk_at "vs"
  cases ht with
  | non => exact q _ (Same.refl _)
  | bl b => exact q _ (Same.refl _)
  | int i => exact q _ (Same.refl _)
  | tup e h => exact q _ (Same.refl _)
  | oth h hT k => rcases hT with rfl | rfl <;> exact q _ (Same.refl _)
  | str x =>
    have hl := hsh.len
    walk_at "vs"
    refine ite2 (fun c1 => ?_) (fun c1 => ?_)
    · have c1' : 1 ≤ (x.length : Int) := by simpa using c1
      walk_at "vs"
      refine ite2 (fun c2 => ?_) (fun c2 => ?_)
      · have c2' : ¬ (x.length : Int) ≤ 8 := by simpa using c2
        walk_at "vs"
        have e : nameT (.str x) = false := decide_eq_false fun g => c2' (by have := g.2.1; omega)
        rw [e] at q
        exact q _ (Same.refl _)
      · have c2' : (x.length : Int) ≤ 8 := by simpa using c2
        walk_at "vs"
        intro D hD
        refine comp_str (fun i σ' H' => (∃ z, σ' = [z]) ∧ Same H H' ∧ H' D = some (.lst (((x.cps.toList.take i).map fun c => decide (isLow c)).map V.bl))) ?_ ?_ ?_
        · exact ⟨⟨none, rfl⟩, same_new _ hD, upd_same⟩
        · intro i c σ' H' hi hP
          obtain ⟨⟨z, rfl⟩, hs, hd⟩ := hP
          have hz : (((x.cps.toList.take i).map fun c => decide (isLow c)).map V.bl).length < sizeLine := by
            rw [List.length_map, List.length_map, List.length_take]
            have : x.cps.toList.length = x.length := by simp [Str.length]
            exact small1000 (by omega)
          walk_at "vs"
          refine ⟨⟨_, rfl⟩, same_updN _ hD hs, ?_⟩
          have hi' : x.cps.toList[i]? = some c := by simpa using hi
          rw [upd_same, low_iff, List.take_succ, hi', List.map_append, List.map_append]
          rfl
        · intro σ' H' hP
          obtain ⟨_, hs, hd⟩ := hP
          walk_at "vs"
          have e : nameT (.str x) = ((List.map (fun c => decide (isLow c)) (List.take x.cps.size x.cps.toList)).all id) := by
            rw [Bool.eq_iff_iff, show nameT (.str x) = decide (GName x) from rfl, decide_eq_true_eq, List.take_of_length_le (by simp), List.all_map, List.all_eq_true]
            constructor
            · intro g c hc
              exact decide_eq_true (g.2.2 c hc)
            · intro g
              exact ⟨by omega, by omega, fun c hc => of_decide_eq_true (g c hc)⟩
          rw [e] at q
          exact q _ hs
    · have c1' : ¬ 1 ≤ (x.length : Int) := by simpa using c1
      walk_at "vs"
      have e : nameT (.str x) = false := decide_eq_false fun g => c1' (by have := g.1; omega)
      rw [e] at q
      exact q _ (Same.refl _)
noncomputable abbrev s_is_choice : Stmt := top 9
theorem sc_is_choice : FnScope ["thing"] ["thing"] (defScope s_is_choice) := ⟨rfl, rfl, rfl, by decide +kernel, rfl, by decide +kernel, by decide +kernel⟩
theorem gl_is_choice_len : (defScope s_is_choice).names.lookup ("len" : Str) = some NameKind.globalImplicit := by decide +kernel
theorem vo_is_choice_thing : VarOk (defScope s_is_choice) "thing" := by decide +kernel
theorem nn_is_choice_len : ("len" : Str) ≠ "__name__" := by decide +kernel
theorem db_is_choice_len : (("len" : Str) == ("__debug__" : Str)) = false := by decide +kernel
theorem gl_is_choice_MOST_CHOICES : (defScope s_is_choice).names.lookup ("MOST_CHOICES" : Str) = some NameKind.globalImplicit := by decide +kernel
theorem db_is_choice_MOST_CHOICES : (("MOST_CHOICES" : Str) == ("__debug__" : Str)) = false := by decide +kernel
theorem gl_is_choice_isinstance : (defScope s_is_choice).names.lookup ("isinstance" : Str) = some NameKind.globalImplicit := by decide +kernel
theorem gl_is_choice_tuple : (defScope s_is_choice).names.lookup ("tuple" : Str) = some NameKind.globalImplicit := by decide +kernel
theorem nn_is_choice_tuple : ("tuple" : Str) ≠ "__name__" := by decide +kernel
theorem db_is_choice_tuple : (("tuple" : Str) == ("__debug__" : Str)) = false := by decide +kernel
theorem nn_is_choice_isinstance : ("isinstance" : Str) ≠ "__name__" := by decide +kernel
theorem db_is_choice_isinstance : (("isinstance" : Str) == ("__debug__" : Str)) = false := by decide +kernel
theorem gl_is_choice_all : (defScope s_is_choice).names.lookup ("all" : Str) = some NameKind.globalImplicit := by decide +kernel
theorem db_is_choice_is_name : (("is_name" : Str) == ("__debug__" : Str)) = false := by decide +kernel
theorem nn_is_choice_all : ("all" : Str) ≠ "__name__" := by decide +kernel
theorem db_is_choice_all : (("all" : Str) == ("__debug__" : Str)) = false := by decide +kernel
theorem ok_is_choice {f g : Addr} {fd gd : FuncData} {tM : Tok} (T_is_choice : FnT K mg "is_choice" s_is_choice ["thing"] f fd) (T_is_name : FnT K mg "is_name" s_is_name ["thing"] g gd)
    (G_is_name : FnOk P w K mg base CX0 1 g gd ["thing"] (spIsName K)) (T : Blt mg) (kd : Kinds K) (mMC : mg "MOST_CHOICES" = some (.int 9 tM)) :
    FnOk P w K mg base CX0 2 f fd ["thing"] (spChoice K) := by
  refine T_is_choice.F.okQ sc_is_choice (fun vs H Q E h => ?_) (fun cdv A outer s H vs Q E hr h => ?_)
  · obtain ⟨v, t, rfl, _⟩ := h
    rfl
  obtain ⟨v, t, rfl, ht, hsh, q⟩ := h
  refine ⟨_, (qss_cons (qs_if (qt_w (qw_or (qt_not (qt_val (qe_callB qc_isi gl_is_choice_isinstance T.b_isinstance bt_isinstance (qa_N (qe_var 0 vo_is_choice_thing) (qa_N (qe_bltn (v := .ty "tuple") gl_is_choice_tuple T.b_tuple bt_tuple rfl nn_is_choice_tuple db_is_choice_tuple) qa_nil)) nn_is_choice_isinstance db_is_choice_isinstance))) (qw_or1 (qt_not (qt_chain qop_le qop_le qe_int (qe_callB qc_len_seq gl_is_choice_len T.b_len bt_len (qa_N (qe_var 0 vo_is_choice_thing) qa_nil) nn_is_choice_len db_is_choice_len) (qe_glob (v := .int 9) gl_is_choice_MOST_CHOICES mMC ⟨_, rfl⟩ db_is_choice_MOST_CHOICES)))))) (qss_one (qs_ret qe_bl)) qss_nil)
    (qss_one (qs_ret (qe_callB (qc_allB rfl) gl_is_choice_all T.b_all bt_all (qa_M (qe_comp rfl (n := 1) (fr := []) (N := ["name"]) (cs_mk (scX := defScope s_is_choice) (NX := ["thing"]) rfl rfl (by decide +kernel)) (qi_tup (qe_var 0 vo_is_choice_thing)) (fun _ _ _ _ _ => (qgx (i := 0) (show List.Nodup (α := Str) ["name"] by decide) (locC (by decide +kernel)))) (fun _ _ _ _ _ => qi_nil) (fun _ _ _ _ _ => (qe_call (G_is_name.mono (by omega)) hr (glC (by decide +kernel)) T_is_name.m T_is_name.F.kp T_is_name.b .nil pass0 (qa_N (qe_var 0 (VarC.ok (by decide +kernel))) qa_nil) db_is_choice_is_name))) qa_nil) nn_is_choice_all db_is_choice_all)))), ?_⟩
  have h1 := ht.ty
  have h2 := ht.isi kd (c := "tuple") (by simp [tys])
  walk_at "vs"
  cases ht with
  | non => exact q _ (Same.refl _)
  | bl b => exact q _ (Same.refl _)
  | int i => exact q _ (Same.refl _)
  | str x => exact q _ (Same.refl _)
  | oth h hT k => rcases hT with rfl | rfl <;> exact q _ (Same.refl _)
  | @tup a ws ts e h =>
    have hl := h.length
    walk_at "vs"
    refine ite2 (fun c1 => ?_) (fun c1 => ?_)
    · have c1' : 1 ≤ (ws.length : Int) := by simpa using c1
      walk_at "vs"
      refine ite2 (fun c2 => ?_) (fun c2 => ?_)
      · have c2' : ¬ (ws.length : Int) ≤ 9 := by simpa using c2
        walk_at "vs"
        have ee : choiceT (.tup ts) = false := by
          show (decide (1 ≤ ts.length) && decide (ts.length ≤ 9) && ts.all nameT) = false
          rw [decide_eq_false (show ¬ ts.length ≤ 9 by omega)]; simp
        rw [ee] at q
        exact q _ (Same.refl _)
      · have c2' : (ws.length : Int) ≤ 9 := by simpa using c2
        walk_at "vs"
        intro D hD
        refine comp_tup (xs := ws) (fun i σ' H' => (∃ z, σ' = [z]) ∧ Same H H' ∧ H' D = some (.lst (((ts.take i).map nameT).map V.bl))) ?_ ?_ ?_ ?_
        · exact ⟨⟨none, rfl⟩, same_new _ hD, upd_same⟩
        · intro i σ' H' _ hP
          exact SqT.of (hP.2.1 _ _ e)
        · intro i x σ' H' hi hP
          obtain ⟨⟨z, rfl⟩, hs, hd⟩ := hP
          obtain ⟨t, ht1, ht2⟩ := h.get hi
          have ht3 := ht2.same hs
          have ht4 := hsh.of t (List.mem_of_getElem? ht1)
          have hz : (((ts.take i).map nameT).map V.bl).length < sizeLine := by
            rw [List.length_map, List.length_map, List.length_take]; exact small1000 (by omega)
          walk_at "vs"
          intro H5 s5
          have hd5 := s5 _ _ hd
          walk_at "vs"
          refine ⟨⟨_, rfl⟩, same_updN _ hD (hs.trans s5), ?_⟩
          rw [upd_same, List.take_succ, ht1, List.map_append, List.map_append]
          rfl
        · intro σ' H' hP
          obtain ⟨_, hs, hd⟩ := hP
          walk_at "vs"
          have ee : choiceT (.tup ts) = (((ts.take ws.length).map nameT).all id) := by
            show (decide (1 ≤ ts.length) && decide (ts.length ≤ 9) && ts.all nameT) = _
            rw [decide_eq_true (show 1 ≤ ts.length by omega), decide_eq_true (show ts.length ≤ 9 by omega), hl, List.take_length, List.all_map]
            rfl
          rw [ee] at q
          exact q _ hs
    · have c1' : ¬ 1 ≤ (ws.length : Int) := by simpa using c1
      walk_at "vs"
      have ee : choiceT (.tup ts) = false := by
        show (decide (1 ≤ ts.length) && decide (ts.length ≤ 9) && ts.all nameT) = false
        rw [decide_eq_false (show ¬ 1 ≤ ts.length by omega)]; simp
      rw [ee] at q
      exact q _ (Same.refl _)
end

section
variable {P : Program} {w : World} {K : PySem.W.Frag} {mg : Str → Option Value} {base : Heap}
noncomputable abbrev s_has_shape : Stmt := top 10
theorem sc_has_shape : FnScope ["thing", "kind"] ["thing"] (defScope s_has_shape) := ⟨rfl, rfl, rfl, by decide +kernel, rfl, by decide +kernel, by decide +kernel⟩
theorem gl_has_shape_isinstance : (defScope s_has_shape).names.lookup ("isinstance" : Str) = some NameKind.globalImplicit := by decide +kernel
theorem gl_has_shape_str : (defScope s_has_shape).names.lookup ("str" : Str) = some NameKind.globalImplicit := by decide +kernel
theorem nn_has_shape_str : ("str" : Str) ≠ "__name__" := by decide +kernel
theorem db_has_shape_str : (("str" : Str) == ("__debug__" : Str)) = false := by decide +kernel
theorem vo_has_shape_thing : VarOk (defScope s_has_shape) "thing" := by decide +kernel
theorem nn_has_shape_isinstance : ("isinstance" : Str) ≠ "__name__" := by decide +kernel
theorem db_has_shape_isinstance : (("isinstance" : Str) == ("__debug__" : Str)) = false := by decide +kernel
theorem gl_has_shape_len : (defScope s_has_shape).names.lookup ("len" : Str) = some NameKind.globalImplicit := by decide +kernel
theorem nn_has_shape_len : ("len" : Str) ≠ "__name__" := by decide +kernel
theorem db_has_shape_len : (("len" : Str) == ("__debug__" : Str)) = false := by decide +kernel
theorem gl_has_shape_tuple : (defScope s_has_shape).names.lookup ("tuple" : Str) = some NameKind.globalImplicit := by decide +kernel
theorem nn_has_shape_tuple : ("tuple" : Str) ≠ "__name__" := by decide +kernel
theorem db_has_shape_tuple : (("tuple" : Str) == ("__debug__" : Str)) = false := by decide +kernel
theorem lo_has_shape_kind : Loc (defScope s_has_shape) "kind" := by decide +kernel
theorem vo_has_shape_kind : VarOk (defScope s_has_shape) "kind" := by decide +kernel
theorem gl_has_shape_is_whole_number : (defScope s_has_shape).names.lookup ("is_whole_number" : Str) = some NameKind.globalImplicit := by decide +kernel
theorem db_has_shape_is_whole_number : (("is_whole_number" : Str) == ("__debug__" : Str)) = false := by decide +kernel
theorem gl_has_shape_is_name : (defScope s_has_shape).names.lookup ("is_name" : Str) = some NameKind.globalImplicit := by decide +kernel
theorem db_has_shape_is_name : (("is_name" : Str) == ("__debug__" : Str)) = false := by decide +kernel
theorem gl_has_shape_is_choice : (defScope s_has_shape).names.lookup ("is_choice" : Str) = some NameKind.globalImplicit := by decide +kernel
theorem db_has_shape_is_choice : (("is_choice" : Str) == ("__debug__" : Str)) = false := by decide +kernel
theorem gl_has_shape_WITHIN : (defScope s_has_shape).names.lookup ("WITHIN" : Str) = some NameKind.globalImplicit := by decide +kernel
theorem db_has_shape_WITHIN : (("WITHIN" : Str) == ("__debug__" : Str)) = false := by decide +kernel
theorem ok_has_shape {f g1 g2 g3 aW : Addr} {fd gd1 gd2 gd3 : FuncData} (T_has_shape : FnT K mg "has_shape" s_has_shape ["thing"] f fd)
    (T_is_whole_number : FnT K mg "is_whole_number" s_is_whole_number ["thing"] g1 gd1) (G_is_whole_number : FnOk P w K mg base CX0 1 g1 gd1 ["thing"] (spWhole K))
    (T_is_name : FnT K mg "is_name" s_is_name ["thing"] g2 gd2) (G_is_name : FnOk P w K mg base CX0 1 g2 gd2 ["thing"] (spIsName K))
    (T_is_choice : FnT K mg "is_choice" s_is_choice ["thing"] g3 gd3) (G_is_choice : FnOk P w K mg base CX0 2 g3 gd3 ["thing"] (spChoice K))
    (T : Blt mg) (kd : Kinds K) (mW : mg "WITHIN" = some (.ref aW)) (TW : Tab P w K aW withinD) : FnOk P w K mg base CX0 3 f fd ["thing"] (spShape K) := by
  refine T_has_shape.F.okQ sc_has_shape (fun vs H Q E h => ?_) (fun cdv A outer s H vs Q E hr h => ?_)
  · obtain ⟨v, t, rfl, _⟩ := h
    rfl
  obtain ⟨v, t, rfl, ht, hsh, q⟩ := h
  refine ⟨_, (qss_cons (qs_if (qt_w (qw_or (qt_not (qt_val (qe_callB qc_isi gl_has_shape_isinstance T.b_isinstance bt_isinstance (qa_N (qe_var 0 vo_has_shape_thing) (qa_N (qe_bltn (v := .ty "tuple") gl_has_shape_tuple T.b_tuple bt_tuple rfl nn_has_shape_tuple db_has_shape_tuple) qa_nil)) nn_has_shape_isinstance db_has_shape_isinstance))) (qw_or (qt_cmp qop_eq (qe_callB qc_len_seq gl_has_shape_len T.b_len bt_len (qa_N (qe_var 0 vo_has_shape_thing) qa_nil) nn_has_shape_len db_has_shape_len) qe_int (nomarkQ _)) (qw_or1 (qt_not (qt_val (qe_callB qc_isi gl_has_shape_isinstance T.b_isinstance bt_isinstance (qa_S (qe_ix qix_tup (qe_var 0 vo_has_shape_thing) qe_int) (qa_N (qe_bltn (v := .ty "str") gl_has_shape_str T.b_str bt_str rfl nn_has_shape_str db_has_shape_str) qa_nil)) nn_has_shape_isinstance db_has_shape_isinstance))))))) (qss_one (qs_ret qe_bl)) qss_nil)
    (qss_cons (qs_set (i := 1) sc_has_shape.nd rfl lo_has_shape_kind (qe_ix qix_tup (qe_var 0 vo_has_shape_thing) qe_int))
    (qss_cons (qs_if (qt_cmp qop_eq (qe_var 1 vo_has_shape_kind) qe_str (nomarkQ _)) (qss_one (qs_ret (qe_and (qe_cmp qop_eq (qe_callB qc_len_seq gl_has_shape_len T.b_len bt_len (qa_N (qe_var 0 vo_has_shape_thing) qa_nil) nn_has_shape_len db_has_shape_len) qe_int (nomarkQ _)) (qe_one (qe_call (G_is_whole_number.mono (by omega)) hr gl_has_shape_is_whole_number T_is_whole_number.m T_is_whole_number.F.kp T_is_whole_number.b .nil pass0 (qa_S (qe_ix qix_tup (qe_var 0 vo_has_shape_thing) qe_int) qa_nil) db_has_shape_is_whole_number))))) qss_nil)
    (qss_cons (qs_if (qt_cmp qop_eq (qe_var 1 vo_has_shape_kind) qe_str (nomarkQ _)) (qss_one (qs_ret (qe_and (qe_cmp qop_eq (qe_callB qc_len_seq gl_has_shape_len T.b_len bt_len (qa_N (qe_var 0 vo_has_shape_thing) qa_nil) nn_has_shape_len db_has_shape_len) qe_int (nomarkQ _)) (qe_one (qe_call (G_is_name.mono (by omega)) hr gl_has_shape_is_name T_is_name.m T_is_name.F.kp T_is_name.b .nil pass0 (qa_S (qe_ix qix_tup (qe_var 0 vo_has_shape_thing) qe_int) qa_nil) db_has_shape_is_name))))) qss_nil)
    (qss_cons (qs_if (qt_cmp qop_eq (qe_var 1 vo_has_shape_kind) qe_str (nomarkQ _)) (qss_one (qs_ret (qe_and (qe_cmp qop_eq (qe_callB qc_len_seq gl_has_shape_len T.b_len bt_len (qa_N (qe_var 0 vo_has_shape_thing) qa_nil) nn_has_shape_len db_has_shape_len) qe_int (nomarkQ _)) (qe_one (qe_call (G_is_choice.mono (by omega)) hr gl_has_shape_is_choice T_is_choice.m T_is_choice.F.kp T_is_choice.b .nil pass0 (qa_S (qe_ix qix_tup (qe_var 0 vo_has_shape_thing) qe_int) qa_nil) db_has_shape_is_choice))))) qss_nil)
    (qss_one (qs_ret (qe_and (qe_cmp (qop_inTab TW) (qe_var 1 vo_has_shape_kind) (qe_glob (v := .ref aW) gl_has_shape_WITHIN mW rfl db_has_shape_WITHIN) rfl) (qe_one (qe_cmp qop_eq (qe_callB qc_len_seq gl_has_shape_len T.b_len bt_len (qa_N (qe_var 0 vo_has_shape_thing) qa_nil) nn_has_shape_len db_has_shape_len) (qe_op qop_add qe_int (qe_ix (qix_tab TW) (qe_glob (v := .ref aW) gl_has_shape_WITHIN mW rfl db_has_shape_WITHIN) (qe_var 1 vo_has_shape_kind))) (nomarkQ _))))))))))), ?_⟩
  have h1 := ht.ty
  have h2 := ht.isi kd (c := "tuple") (by simp [tys])
  walk_at "vs"
  cases ht with
  | non => exact q _ (Same.refl _)
  | bl b => exact q _ (Same.refl _)
  | int i => exact q _ (Same.refl _)
  | str x => exact q _ (Same.refl _)
  | oth h hT k => rcases hT with rfl | rfl <;> exact q _ (Same.refl _)
  | @tup a ws ts e h =>
    cases h with
    | nil => walk_at "vs"; exact q _ (Same.refl _)
    | @cons x tx vs ts hx hr' =>
      have hl := hr'.length
      have h3 := hx.ty
      have h4 := hx.isi kd (c := "str") (by simp [tys])
      have at0 : atI (x :: vs) 0 = some x := atI_nat (j := 0) rfl
      walk_at "vs"
      cases hx with
      | non => exact q _ (Same.refl _)
      | bl b => exact q _ (Same.refl _)
      | int i => exact q _ (Same.refl _)
      | tup _ _ => exact q _ (Same.refl _)
      | oth h hT k => rcases hT with rfl | rfl <;> exact q _ (Same.refl _)
      | str k =>
        walk_at "vs"
        refine ite2 (fun c1 => ?_) (fun c1 => ?_)
        · have hk : k = "number" := V.str.inj (of_decide_eq_true c1)
          subst hk
          walk_at "vs"
          refine ite2 (fun c2 => ?_) (fun c2 => ?_)
          · have c3 := len_of.mp (of_decide_eq_true c2)
            cases hr' with
            | nil => simp at c3
            | @cons v1 t1 vs1 ts1 hv1 hr1 =>
              cases hr1 with
              | cons _ _ => simp at c3; omega
              | nil =>
                walk_at "vs"
                have ee : (shapeT (.tup [.str "number", t1])).isSome = wholeT t1 := by rw [shape_num]; cases wholeT t1 <;> rfl
                rw [ee] at q
                exact q _ (Same.refl _)
          · have c3 : ¬ (vs.length : Int) = 2 - 1 := fun z => c2 (decide_eq_true (len_of.mpr z))
            rw [shape_len1 (.inl rfl) (by omega)] at q
            exact q _ (Same.refl _)
        · walk_at "vs"
          refine ite2 (fun c2 => ?_) (fun c2 => ?_)
          · have hk : k = "read" := V.str.inj (of_decide_eq_true c2)
            subst hk
            walk_at "vs"
            refine ite2 (fun c2 => ?_) (fun c2 => ?_)
            · have c3 := len_of.mp (of_decide_eq_true c2)
              cases hr' with
              | nil => simp at c3
              | @cons v1 t1 vs1 ts1 hv1 hr1 =>
                cases hr1 with
                | cons _ _ => simp at c3; omega
                | nil =>
                  have hs1 := hsh.of t1 (by simp)
                  walk_at "vs"
                  intro H5 s5
                  have ee : (shapeT (.tup [.str "read", t1])).isSome = nameT t1 := by rw [shape_rd]; cases nameT t1 <;> rfl
                  rw [ee] at q
                  exact q _ s5
            · have c3 : ¬ (vs.length : Int) = 2 - 1 := fun z => c2 (decide_eq_true (len_of.mpr z))
              rw [shape_len1 (.inr rfl) (by omega)] at q
              exact q _ (Same.refl _)
          · walk_at "vs"
            refine ite2 (fun c3 => ?_) (fun c3 => ?_)
            · have hk : k = "choose" := V.str.inj (of_decide_eq_true c3)
              subst hk
              walk_at "vs"
              refine ite2 (fun c2 => ?_) (fun c2 => ?_)
              · have c3 := len_of.mp (of_decide_eq_true c2)
                cases hr' with
                | nil => simp at c3
                | @cons v1 t1 vs1 ts1 hv1 hr1 =>
                  cases hr1 with
                  | nil => simp at c3
                  | @cons v2 t2 vs2 ts2 hv2 hr2 =>
                    cases hr2 with
                    | cons _ _ => simp at c3; omega
                    | nil =>
                      have hs1 := hsh.of t2 (by simp)
                      walk_at "vs"
                      intro H5 s5
                      have ee : (shapeT (.tup [.str "choose", t1, t2])).isSome = choiceT t2 := by rw [shape_cho]; cases choiceT t2 <;> rfl
                      rw [ee] at q
                      exact q _ s5
              · have c3 : ¬ (vs.length : Int) = 3 - 1 := fun z => c2 (decide_eq_true (len_of.mpr z))
                rw [shape_len2 (.inl rfl) (by omega)] at q
                exact q _ (Same.refl _)
            · have n1 : k ≠ "number" := fun z => c1 (decide_eq_true (congrArg V.str z))
              have n2 : k ≠ "read" := fun z => c2 (decide_eq_true (congrArg V.str z))
              have n3 : k ≠ "choose" := fun z => c3 (decide_eq_true (congrArg V.str z))
              walk_at "vs"
              by_cases hop : k = "plus" ∨ k = "minus" ∨ k = "times" ∨ k = "most"
              · have lk : wLook k = some (.int 2) := by
                  rcases hop with z | z | z | z <;> rw [z]
                  · exact w_plus
                  · exact w_minus
                  · exact w_times
                  · exact w_most
                refine itB_t (show (wLook k).isSome = true by rw [lk]; rfl) ?_
                walk_at "vs"
                rw [op_isSome hop (x := V.str k) hl] at q
                exact q _ (Same.refl _)
              · by_cases hpk : k = "pick"
                · subst hpk
                  have lk := w_pick
                  refine itB_t (show (wLook "pick").isSome = true by rw [lk]; rfl) ?_
                  walk_at "vs"
                  rw [pick_isSome (x := V.str "pick") hl] at q
                  exact q _ (Same.refl _)
                · have hno : k ≠ "number" ∧ k ≠ "read" ∧ k ≠ "choose" ∧ k ≠ "plus" ∧ k ≠ "minus" ∧ k ≠ "times" ∧ k ≠ "most" ∧ k ≠ "pick" :=
                    ⟨n1, n2, n3, fun z => hop (.inl z), fun z => hop (.inr (.inl z)), fun z => hop (.inr (.inr (.inl z))), fun z => hop (.inr (.inr (.inr z))), hpk⟩
                  refine itB_f (show (wLook k).isSome = false by rw [w_none hno]; rfl) ?_
                  rw [shape_other hno] at q
                  exact q _ (Same.refl _)
noncomputable abbrev s_recipes_within : Stmt := top 11
theorem sc_recipes_within : FnScope ["r"] ["r"] (defScope s_recipes_within) := ⟨rfl, rfl, rfl, by decide +kernel, rfl, by decide +kernel, by decide +kernel⟩
theorem gl_recipes_within_WITHIN : (defScope s_recipes_within).names.lookup ("WITHIN" : Str) = some NameKind.globalImplicit := by decide +kernel
theorem db_recipes_within_WITHIN : (("WITHIN" : Str) == ("__debug__" : Str)) = false := by decide +kernel
theorem vo_recipes_within_r : VarOk (defScope s_recipes_within) "r" := by decide +kernel
theorem ok_recipes_within {f aW : Addr} {fd : FuncData} (T_recipes_within : FnT K mg "recipes_within" s_recipes_within ["r"] f fd) (T : Blt mg) (mW : mg "WITHIN" = some (.ref aW)) (TW : Tab P w K aW withinD) :
    FnOk P w K mg base CX0 1 f fd ["r"] (spWithin K) := by
  refine T_recipes_within.F.okQ sc_recipes_within (fun vs H Q E h => ?_) (fun cdv A outer s H vs Q E hr h => ?_)
  · obtain ⟨v, t, ks, H0, rfl, _⟩ := h
    rfl
  obtain ⟨v, t, ks, H0, rfl, ht, s0, hks, q⟩ := h
  refine ⟨_, (qss_one (qs_ret (qe_slice qsl_tup (qe_var 0 vo_recipes_within_r) (qo_some qe_int) (qo_some (qe_op qop_add qe_int (qe_ix (qix_tab TW) (qe_glob (v := .ref aW) gl_recipes_within_WITHIN mW rfl db_recipes_within_WITHIN) (qe_ix qix_tup (qe_var 0 vo_recipes_within_r) qe_int))))))), ?_⟩
  rcases shape_inv hks with ⟨x, rfl, rfl⟩ | ⟨x, rfl, rfl⟩ | ⟨x, y, rfl, rfl⟩ | ⟨k, x, y, hop, rfl, rfl⟩ | ⟨x, y, z, rfl, rfl⟩
  · cases ht with
    | @tup a ws ts e h =>
      cases h with
      | cons hx h => cases hx; cases h with
        | cons h1 h => cases h
                       have e' := s0 _ _ e
                       have lk := w_number
                       walk_at "vs"
                       intro p hp
                       exact q p [] _ (same_new _ hp) upd_same .nil
  · cases ht with
    | @tup a ws ts e h =>
      cases h with
      | cons hx h => cases hx; cases h with
        | cons h1 h => cases h
                       have e' := s0 _ _ e
                       have lk := w_read
                       walk_at "vs"
                       intro p hp
                       exact q p [] _ (same_new _ hp) upd_same .nil
  · cases ht with
    | @tup a ws ts e h =>
      cases h with
      | cons hx h => cases hx; cases h with
        | cons h1 h => cases h with
          | cons h2 h => cases h
                         have e' := s0 _ _ e
                         have lk := w_choose
                         walk_at "vs"
                         intro p hp
                         exact q p [_] _ (same_new _ hp) upd_same (.cons h1 .nil)
  · have lk : wLook k = some (.int 2) := by
      rcases hop with z | z | z | z <;> rw [z]
      · exact w_plus
      · exact w_minus
      · exact w_times
      · exact w_most
    cases ht with
    | @tup a ws ts e h =>
      cases h with
      | cons hx h => cases hx; cases h with
        | cons h1 h => cases h with
          | cons h2 h => cases h
                         have e' := s0 _ _ e
                         walk_at "vs"
                         intro p hp
                         exact q p [_, _] _ (same_new _ hp) upd_same (.cons h1 (.cons h2 .nil))
  · cases ht with
    | @tup a ws ts e h =>
      cases h with
      | cons hx h => cases hx; cases h with
        | cons h1 h => cases h with
          | cons h2 h => cases h with
            | cons h3 h => cases h
                           have e' := s0 _ _ e
                           have lk := w_pick
                           walk_at "vs"
                           intro p hp
                           exact q p [_, _, _] _ (same_new _ hp) upd_same (.cons h1 (.cons h2 (.cons h3 .nil)))
theorem ok_recipes_withinR {f aW : Addr} {fd : FuncData} (T_recipes_within : FnT K mg "recipes_within" s_recipes_within ["r"] f fd) (T : Blt mg) (mW : mg "WITHIN" = some (.ref aW)) (TW : Tab P w K aW withinD) :
    FnOk P w K mg base CX0 1 f fd ["r"] spWithR := by
  refine T_recipes_within.F.okQ sc_recipes_within (fun vs H Q E h => ?_) (fun cdv A outer s H vs Q E hr h => ?_)
  · obtain ⟨a, r, rfl, _⟩ := h
    rfl
  obtain ⟨a, r, rfl, hR, q⟩ := h
  refine ⟨_, (qss_one (qs_ret (qe_slice qsl_tup (qe_var 0 vo_recipes_within_r) (qo_some qe_int) (qo_some (qe_op qop_add qe_int (qe_ix (qix_tab TW) (qe_glob (v := .ref aW) gl_recipes_within_WITHIN mW rfl db_recipes_within_WITHIN) (qe_ix qix_tup (qe_var 0 vo_recipes_within_r) qe_int))))))), ?_⟩
  cases hR with
  | num e =>
    have lk := w_number
    walk_at "vs"
    intro p hp
    exact q p [] _ (same_new _ hp) upd_same .nil
  | rd e =>
    have lk := w_read
    walk_at "vs"
    intro p hp
    exact q p [] _ (same_new _ hp) upd_same .nil
  | @bin _ b c op r s e h1 h2 =>
    have lk : wLook op.word = some (.int 2) := by cases op <;> first | exact w_plus | exact w_minus | exact w_times | exact w_most
    walk_at "vs"
    intro p hp
    exact q p [b, c] _ (same_new _ hp) upd_same (.cons (h1.same (same_new _ hp)) (.cons (h2.same (same_new _ hp)) .nil))
  | @pick _ b c d r s t e h1 h2 h3 =>
    have lk := w_pick
    walk_at "vs"
    intro p hp
    exact q p [b, c, d] _ (same_new _ hp) upd_same (.cons (h1.same (same_new _ hp)) (.cons (h2.same (same_new _ hp)) (.cons (h3.same (same_new _ hp)) .nil)))
  | @cho _ b c r ns e h1 h2 =>
    have lk := w_choose
    walk_at "vs"
    intro p hp
    exact q p [b] _ (same_new _ hp) upd_same (.cons (h1.same (same_new _ hp)) .nil)
end

section
variable {P : Program} {w : World} {K : PySem.W.Frag} {mg : Str → Option Value} {base : Heap}
noncomputable abbrev s_is_recipe : Stmt := top 12
theorem sc_is_recipe : FnScope ["thing", "todo", "seen", "step", "depth", "part"] ["thing"] (defScope s_is_recipe) := ⟨rfl, rfl, rfl, by decide +kernel, rfl, by decide +kernel, by decide +kernel⟩
theorem lo_is_recipe_todo : Loc (defScope s_is_recipe) "todo" := by decide +kernel
theorem vo_is_recipe_thing : VarOk (defScope s_is_recipe) "thing" := by decide +kernel
theorem lo_is_recipe_seen : Loc (defScope s_is_recipe) "seen" := by decide +kernel
theorem vo_is_recipe_todo : VarOk (defScope s_is_recipe) "todo" := by decide +kernel
theorem lo_is_recipe_step : Loc (defScope s_is_recipe) "step" := by decide +kernel
theorem vo_is_recipe_seen : VarOk (defScope s_is_recipe) "seen" := by decide +kernel
theorem lo_is_recipe_depth : Loc (defScope s_is_recipe) "depth" := by decide +kernel
theorem vo_is_recipe_step : VarOk (defScope s_is_recipe) "step" := by decide +kernel
theorem gl_is_recipe_has_shape : (defScope s_is_recipe).names.lookup ("has_shape" : Str) = some NameKind.globalImplicit := by decide +kernel
theorem db_is_recipe_has_shape : (("has_shape" : Str) == ("__debug__" : Str)) = false := by decide +kernel
theorem vo_is_recipe_depth : VarOk (defScope s_is_recipe) "depth" := by decide +kernel
theorem gl_is_recipe_MOST_DEPTH : (defScope s_is_recipe).names.lookup ("MOST_DEPTH" : Str) = some NameKind.globalImplicit := by decide +kernel
theorem db_is_recipe_MOST_DEPTH : (("MOST_DEPTH" : Str) == ("__debug__" : Str)) = false := by decide +kernel
theorem gl_is_recipe_MOST_RECIPES : (defScope s_is_recipe).names.lookup ("MOST_RECIPES" : Str) = some NameKind.globalImplicit := by decide +kernel
theorem db_is_recipe_MOST_RECIPES : (("MOST_RECIPES" : Str) == ("__debug__" : Str)) = false := by decide +kernel
theorem gl_is_recipe_recipes_within : (defScope s_is_recipe).names.lookup ("recipes_within" : Str) = some NameKind.globalImplicit := by decide +kernel
theorem db_is_recipe_recipes_within : (("recipes_within" : Str) == ("__debug__" : Str)) = false := by decide +kernel
theorem lo_is_recipe_part : Loc (defScope s_is_recipe) "part" := by decide +kernel
theorem vo_is_recipe_part : VarOk (defScope s_is_recipe) "part" := by decide +kernel
theorem ok_is_recipe {f g1 g2 : Addr} {fd gd1 gd2 : FuncData} {tR tD : Tok} (T_is_recipe : FnT K mg "is_recipe" s_is_recipe ["thing"] f fd)
    (T_has_shape : FnT K mg "has_shape" s_has_shape ["thing"] g1 gd1) (G_has_shape : FnOk P w K mg base CX0 3 g1 gd1 ["thing"] (spShape K))
    (T_recipes_within : FnT K mg "recipes_within" s_recipes_within ["r"] g2 gd2) (G_recipes_within : FnOk P w K mg base CX0 1 g2 gd2 ["r"] (spWithin K))
    (T : Blt mg) (mMR : mg "MOST_RECIPES" = some (.int 100 tR)) (mMD : mg "MOST_DEPTH" = some (.int 8 tD)) : FnOk P w K mg base CX0 4 f fd ["thing"] (spIsRec K) := by
  refine T_is_recipe.F.okQ sc_is_recipe (fun vs H Q E h => ?_) (fun cdv A outer s H vs Q E hr h => ?_)
  · obtain ⟨v, t, rfl, _⟩ := h
    rfl
  obtain ⟨v, t, rfl, ht, hsh, q⟩ := h
  refine ⟨_, (qss_cons (qs_set (i := 1) sc_is_recipe.nd rfl lo_is_recipe_todo (qe_lst (qa_T (qe_tup (qa_N (qe_var 0 vo_is_recipe_thing) (qa_C qe_int qa_nil))) qa_nil)))
    (qss_cons (qs_set (i := 2) sc_is_recipe.nd rfl lo_is_recipe_seen qe_int)
    (qss_cons (qs_while PassesOwn.never (qt_truth (qe_var 1 vo_is_recipe_todo)) (qss_cons (qs_set (i := 3) sc_is_recipe.nd rfl lo_is_recipe_step (qe_bm0 PySem.F.plainAttrs_list PySem.F.slot_list_pop PySem.F.type_list_pop qmt_pop (qe_var 1 vo_is_recipe_todo)))
    (qss_cons (qs_set (i := 2) sc_is_recipe.nd rfl lo_is_recipe_seen (qe_op qop_add (qe_var 2 vo_is_recipe_seen) qe_int))
    (qss_cons (qs_set (i := 4) sc_is_recipe.nd rfl lo_is_recipe_depth (qe_ix qix_tup (qe_var 3 vo_is_recipe_step) qe_int))
    (qss_cons (qs_if (qt_w (qw_or (qt_cmp qop_gt (qe_var 2 vo_is_recipe_seen) (qe_glob (v := .int 100) gl_is_recipe_MOST_RECIPES mMR ⟨_, rfl⟩ db_is_recipe_MOST_RECIPES) (nomarkQ _)) (qw_or (qt_cmp qop_gt (qe_var 4 vo_is_recipe_depth) (qe_glob (v := .int 8) gl_is_recipe_MOST_DEPTH mMD ⟨_, rfl⟩ db_is_recipe_MOST_DEPTH) (nomarkQ _)) (qw_or1 (qt_not (qt_val (qe_call (G_has_shape.mono (by omega)) hr gl_is_recipe_has_shape T_has_shape.m T_has_shape.F.kp T_has_shape.b .nil pass0 (qa_S (qe_ix qix_tup (qe_var 3 vo_is_recipe_step) qe_int) qa_nil) db_is_recipe_has_shape))))))) (qss_one (qs_ret qe_bl)) qss_nil)
    (qss_one (qs_for PassesOwn.never rfl (qi_tup (qe_call (G_recipes_within.mono (by omega)) hr gl_is_recipe_recipes_within T_recipes_within.m T_recipes_within.F.kp T_recipes_within.b .nil pass0 (qa_S (qe_ix qix_tup (qe_var 3 vo_is_recipe_step) qe_int) qa_nil) db_is_recipe_recipes_within)) (qg_name (i := 5) sc_is_recipe.nd rfl lo_is_recipe_part) (qss_one (qs_expr (qe_bm PySem.F.plainAttrs_list PySem.F.slot_list_append PySem.F.type_list_append qmt_append (qe_var 1 vo_is_recipe_todo) (qa_T (qe_tup (qa_N (qe_var 5 vo_is_recipe_part) (qa_B (qe_op qop_add (qe_var 4 vo_is_recipe_depth) qe_int) qa_nil))) qa_nil)))))))))))
    (qss_one (qs_ret qe_bl))))), ?_⟩
  walk_at "vs"
  intro p1 hp1
  walk_at "vs"
  intro td htd
  walk_at "vs"
  have htH : H td = none := (same_new (.tup [v, V.int 1]) hp1).free htd
  refine ⟨fun m σ H' => ∃ (seen : Nat) (js : List Job) (t3 t4 t5 : Option V), m = 101 - seen ∧ σ = [some v, some (.ref td), some (.int seen), t3, t4, t5] ∧ Same H H' ∧ H' td = some (.lst (js.map fun j => V.ref j.a)) ∧ (∀ j ∈ js, JOk K H H' j) ∧
    seen ≤ 100 ∧ js.length ≤ 1 + 3 * seen ∧ (szN 8 t ≤ 100 ↔ seen + sumJ js ≤ 100), ⟨101, 0, [⟨p1, v, t, 1⟩], none, none, none, rfl, rfl, (same_new _ hp1).trans (same_new _ htd), upd_same, ?_, by decide, Nat.le_refl 1, ?_⟩, ?_⟩
  · intro j hj
    have : j = ⟨p1, v, t, 1⟩ := by simpa using hj
    subst this
    exact ⟨same_new _ htd _ _ upd_same, ht, hsh, Nat.le_refl 1, Nat.le_of_ble_eq_true rfl⟩
  · simp [sumJ]
  rintro m σ H1 ⟨seen, js, t3, t4, t5, rfl, rfl, s1, e1, hjs, h100, hlen, hiff⟩
  walk_at "vs"
  rcases List.eq_nil_or_concat js with rfl | ⟨js0, j, rfl⟩
  · walk_at "vs"
    have hd : decide (szN 8 t ≤ 100) = true := decide_eq_true (hiff.mpr (by simpa [sumJ] using h100))
    rw [hd] at q
    exact q _ s1
  · simp only [List.concat_eq_append] at e1 hjs hlen hiff ⊢
    refine itB_t (by simp) ?_
    rw [List.map_append] at e1
    obtain ⟨je, ji, jsh, jlo, jhi⟩ := hjs j (by simp)
    have hj0 : ∀ j' ∈ js0, JOk K H H1 j' := fun j' hj' => hjs j' (List.mem_append_left _ hj')
    have hl0 : js0.length + 1 ≤ 1 + 3 * seen := by simpa using hlen
    rw [sumJ_snoc] at hiff
    have hpos := szN_pos (9 - j.d) j.t
    refine ⟨fun σ' H' => ∃ (js : List Job) (t3 t4 t5 : Option V), σ' = [some v, some (.ref td), some (.int ((seen + 1 : Nat) : Int)), t3, t4, t5] ∧ Same H H' ∧ H' td = some (.lst (js.map fun j => V.ref j.a)) ∧ (∀ j ∈ js, JOk K H H' j) ∧
      seen + 1 ≤ 100 ∧ js.length ≤ 1 + 3 * (seen + 1) ∧ (szN 8 t ≤ 100 ↔ (seen + 1) + sumJ js ≤ 100), ?_, ?_⟩
    · rintro σ' H' ⟨js, t3, t4, t5, rfl, a1, a2, a3, a4, a5, a6⟩
      exact ⟨101 - (seen + 1), by omega, seen + 1, js, t3, t4, t5, rfl, rfl, a1, a2, a3, a4, a5, a6⟩
    · have e1' : H1 td = some (.lst ((js0.map fun j => V.ref j.a) ++ [V.ref j.a])) := e1
      have hlast : ((js0.map fun j => V.ref j.a) ++ [V.ref j.a])[((js0.map fun j => V.ref j.a) ++ [V.ref j.a]).length - 1]? = some (V.ref j.a) := by simp
      have hne : j.a ≠ td := ne_of je e1 (by intro z; cases z)
      walk_at "vs"
      rw [List.dropLast_concat]
      have tu : Tups H1 (upd H1 td (.lst (js0.map fun j => V.ref j.a))) := tups_set _ e1
      have je2 := tu _ _ je
      have s2 : Same H (upd H1 td (.lst (js0.map fun j => V.ref j.a))) := same_updN _ htH s1
      walk_at "vs"
      refine ite2 (fun c1 => ?_) (fun c1 => ?_)
      · have c1' : (100 : Int) < (seen : Int) + 1 := by simpa using c1
        walk_at "vs"
        have hd : decide (szN 8 t ≤ 100) = false := decide_eq_false fun z => by have := hiff.mp z; omega
        rw [hd] at q
        exact q _ s2
      · have c1' : ¬ (100 : Int) < (seen : Int) + 1 := by simpa using c1
        walk_at "vs"
        refine ite2 (fun c2 => ?_) (fun c2 => ?_)
        · have c2' : (8 : Int) < (j.d : Int) := by simpa using c2
          walk_at "vs"
          have hd : decide (szN 8 t ≤ 100) = false := decide_eq_false fun z => by
            have := hiff.mp z
            have e9 : 9 - j.d = 0 := by omega
            rw [e9] at this
            have : szN 0 j.t = 1000 := rfl
            omega
          rw [hd] at q
          exact q _ s2
        · have c2' : ¬ (8 : Int) < (j.d : Int) := by simpa using c2
          have ji2 := ji.same s2
          walk_at "vs"
          intro H5 s5
          have je5 := s5 _ _ je2
          have etd5 := s5 _ _ (upd_same (H := H1) (a := td) (o := .lst (js0.map fun j => V.ref j.a)))
          have s25 := s2.trans s5
          clear ji2
          cases hsp : shapeT j.t with
          | none =>
            walk_at "vs"
            have hd : decide (szN 8 t ≤ 100) = false := decide_eq_false fun z => by
              have := hiff.mp z
              have := szN_none (d := 9 - j.d) hsp
              omega
            rw [hd] at q
            exact q _ s25
          | some ks =>
            have hk3 := kids_le hsp
            have hks := kids_short hsp jsh
            walk_at "vs"
            intro a ws H6 s6 e6 h6
            have hwl := h6.length
            have etd6 := s6 _ _ etd5
            walk_at "vs"
            refine for_tup (xs := ws) (fun i σ' Hc => Wr (∃ (js' : List Job) (t5 : Option V), σ' = [some v, some (.ref td), some (.int ((seen : Int) + 1)), some (.ref j.a), some (.int j.d), t5] ∧ Same H Hc ∧ Hc td = some (.lst (js'.map fun j => V.ref j.a)) ∧ (∀ j ∈ js', JOk K H Hc j) ∧
              js'.length = js0.length + i ∧ sumJ js' = sumJ js0 + ((ks.take i).map (szN (8 - j.d))).sum ∧ Hc a = some (.tup ws))) ?_ ?_ ?_ ?_
            · exact .mk ⟨js0, _, rfl, s25.trans s6, etd6, fun j' hj' => (hj0 j' hj').tups (tu.trans (Same.tups (s5.trans s6))), rfl, by simp, e6⟩
            · intro i σ' Hc _ hP
              obtain ⟨_, _, _, _, _, _, _, _, ea⟩ := hP.h
              exact SqT.of ea
            · intro i x σ' Hc hx hP
              obtain ⟨js', t5', rfl, sc, etd, hj', hl', hsum, ea⟩ := hP.h
              obtain ⟨kt, hk1, hk2⟩ := h6.get hx
              have hi : i < ws.length := (List.getElem?_eq_some_iff.mp hx).1
              have hz : (js'.map fun j => V.ref j.a).length < sizeLine := by rw [List.length_map]; exact small1000 (by omega)
              walk_at "vs"
              intro p hp
              have hpn : td ≠ p := ne_of_none etd hp
              have sp := same_new (.tup [x, V.int ((j.d : Int) + 1)]) hp
              have etdp := sp _ _ etd
              walk_at "vs"
              have tu2 : Tups Hc _ := (Same.tups sp).trans (tups_set (.lst ((js'.map fun j => V.ref j.a) ++ [V.ref p])) etdp)
              refine .mk ⟨js' ++ [⟨p, x, kt, j.d + 1⟩], _, rfl, same_updN _ htH (sc.trans sp), ?_, ?_, ?_, ?_, ?_⟩
              · rw [upd_same, List.map_append]; rfl
              · intro j' hj2
                rcases List.mem_append.mp hj2 with z | z
                · exact (hj' j' z).tups tu2
                · have : j' = ⟨p, x, kt, j.d + 1⟩ := by simpa using z
                  subst this
                  refine ⟨?_, hk2, hks kt (List.mem_of_getElem? hk1), by show 1 ≤ j.d + 1; omega, by show j.d + 1 ≤ 9; omega⟩
                  rw [upd_ne (Ne.symm hpn)]
                  exact upd_same
              · rw [List.length_append, hl']; rfl
              · rw [sumJ_snoc, hsum, List.take_succ, hk1, List.map_append, List.sum_append]
                have : 9 - (j.d + 1) = 8 - j.d := by omega
                show _ + szN (9 - (j.d + 1)) kt = _
                rw [this]
                simp
                omega
              · exact tu2 _ _ ea
            · intro σ' Hc hP
              obtain ⟨js', t5', rfl, sc, etd, hj', hl', hsum, ea⟩ := hP.h
              rw [hwl, List.take_length] at hsum
              refine ⟨js', _, _, _, rfl, sc, etd, hj', by omega, by omega, ?_⟩
              rw [hiff, szN_some (by omega) hsp, hsum]
              omega
end

section
variable {P : Program} {w : World} {K : PySem.W.Frag} {mg : Str → Option Value} {base : Heap}
noncomputable abbrev s_names_in : Stmt := top 14
theorem sc_names_in : FnScope ["r", "todo", "names", "part"] ["r"] (defScope s_names_in) := ⟨rfl, rfl, rfl, by decide +kernel, rfl, by decide +kernel, by decide +kernel⟩
theorem lo_names_in_todo : Loc (defScope s_names_in) "todo" := by decide +kernel
theorem vo_names_in_r : VarOk (defScope s_names_in) "r" := by decide +kernel
theorem lo_names_in_names : Loc (defScope s_names_in) "names" := by decide +kernel
theorem vo_names_in_todo : VarOk (defScope s_names_in) "todo" := by decide +kernel
theorem lo_names_in_part : Loc (defScope s_names_in) "part" := by decide +kernel
theorem vo_names_in_part : VarOk (defScope s_names_in) "part" := by decide +kernel
theorem vo_names_in_names : VarOk (defScope s_names_in) "names" := by decide +kernel
theorem gl_names_in_recipes_within : (defScope s_names_in).names.lookup ("recipes_within" : Str) = some NameKind.globalImplicit := by decide +kernel
theorem db_names_in_recipes_within : (("recipes_within" : Str) == ("__debug__" : Str)) = false := by decide +kernel
theorem gl_names_in_sorted : (defScope s_names_in).names.lookup ("sorted" : Str) = some NameKind.globalImplicit := by decide +kernel
theorem gl_names_in_set : (defScope s_names_in).names.lookup ("set" : Str) = some NameKind.globalImplicit := by decide +kernel
theorem nn_names_in_set : ("set" : Str) ≠ "__name__" := by decide +kernel
theorem db_names_in_set : (("set" : Str) == ("__debug__" : Str)) = false := by decide +kernel
theorem nn_names_in_sorted : ("sorted" : Str) ≠ "__name__" := by decide +kernel
theorem db_names_in_sorted : (("sorted" : Str) == ("__debug__" : Str)) = false := by decide +kernel
theorem ok_names_in {f g1 : Addr} {fd gd1 : FuncData} (T_names_in : FnT K mg "names_in" s_names_in ["r"] f fd)
    (T_recipes_within : FnT K mg "recipes_within" s_recipes_within ["r"] g1 gd1) (G_recipes_within : FnOk P w K mg base CX0 1 g1 gd1 ["r"] spWithR) (T : Blt mg) :
    FnOk P w K mg base CX0 2 f fd ["r"] spNames := by
  refine T_names_in.F.okQ sc_names_in (fun vs H Q E h => ?_) (fun cdv A outer s H vs Q E hr h => ?_)
  · obtain ⟨a, r, rfl, _⟩ := h
    rfl
  obtain ⟨a, r, rfl, hR, hnl, hnd, q⟩ := h
  refine ⟨_, (qss_cons (qs_set (i := 1) sc_names_in.nd rfl lo_names_in_todo (qe_lst (qa_N (qe_var 0 vo_names_in_r) qa_nil)))
    (qss_cons (qs_set (i := 2) sc_names_in.nd rfl lo_names_in_names (qe_lst qa_nil))
    (qss_cons (qs_while PassesOwn.never (qt_truth (qe_var 1 vo_names_in_todo)) (qss_cons (qs_set (i := 3) sc_names_in.nd rfl lo_names_in_part (qe_bm0 PySem.F.plainAttrs_list PySem.F.slot_list_pop PySem.F.type_list_pop qmt_pop (qe_var 1 vo_names_in_todo)))
    (qss_cons (qs_if (qt_cmp qop_eq (qe_ix qix_tup (qe_var 3 vo_names_in_part) qe_int) qe_str (nomarkQ _)) (qss_one (qs_expr (qe_bm PySem.F.plainAttrs_list PySem.F.slot_list_append PySem.F.type_list_append qmt_append (qe_var 2 vo_names_in_names) (qa_S (qe_ix qix_tup (qe_var 3 vo_names_in_part) qe_int) qa_nil)))) qss_nil)
    (qss_cons (qs_if (qt_cmp qop_eq (qe_ix qix_tup (qe_var 3 vo_names_in_part) qe_int) qe_str (nomarkQ _)) (qss_one (qs_expr (qe_bm PySem.F.plainAttrs_list PySem.F.slot_list_extend PySem.F.type_list_extend qmt_extendT (qe_var 2 vo_names_in_names) (qa_S (qe_ix qix_tup (qe_var 3 vo_names_in_part) qe_int) qa_nil)))) qss_nil)
    (qss_one (qs_expr (qe_bm PySem.F.plainAttrs_list PySem.F.slot_list_extend PySem.F.type_list_extend qmt_extendT (qe_var 1 vo_names_in_todo) (qa_F (qe_call (G_recipes_within.mono (by omega)) hr gl_names_in_recipes_within T_recipes_within.m T_recipes_within.F.kp T_recipes_within.b .nil pass0 (qa_N (qe_var 3 vo_names_in_part) qa_nil) db_names_in_recipes_within) qa_nil))))))))
    (qss_one (qs_ret (qe_callB (qc_sortedS rfl) gl_names_in_sorted T.b_sorted bt_sorted (qa_F (qe_callTy (qc_setL rfl) gl_names_in_set T.b_set bt_set (qa_N (qe_var 2 vo_names_in_names) qa_nil) nn_names_in_set db_names_in_set) qa_nil) nn_names_in_sorted db_names_in_sorted)))))), ?_⟩
  walk_at "vs"
  intro td htd
  walk_at "vs"
  intro nm hnm
  walk_at "vs"
  have tdH : H td = none := htd
  have nmH : H nm = none := (same_new (.lst [V.ref a]) htd).free hnm
  have ne0 : td ≠ nm := ne_of_none upd_same hnm
  refine ⟨fun m σ H' => ∃ (as : List Addr) (rs : List R) (ns : List Str) (t3 : Option V), m = allK rs ∧ σ = [some (.ref a), some (.ref td), some (.ref nm), t3] ∧ Same H H' ∧ H' td = some (.lst (as.map V.ref)) ∧ H' nm = some (.lst (ns.map V.str)) ∧ IsRq H' as rs ∧
    r.names.Perm (ns ++ allN rs) ∧ allK rs ≤ 1000, ⟨r.nodes, [a], [r], [], none, by simp [allK], rfl, (same_new _ htd).trans (same_new _ hnm), same_new _ hnm _ _ upd_same, upd_same, .cons ((hR.same (same_new _ htd)).same (same_new _ hnm)) .nil, by simp [allN], by simpa [allK] using hnd⟩, ?_⟩
  rintro m σ H1 ⟨as, rs, ns, t3, rfl, rfl, s1, e1, e2, hrs, hpm, hk⟩
  walk_at "vs"
  rcases List.eq_nil_or_concat rs with rfl | ⟨rs0, r0, rfl⟩
  · have has : as = [] := List.eq_nil_of_length_eq_zero hrs.len
    subst has
    have hpm' : r.names.Perm ns := by simpa [allN] using hpm
    have hl : ns.length ≤ 1000 := by rw [← hpm'.length_eq]; exact hnl
    have hnd2 : (metS [] ns).Nodup := metS_nd ns [] List.Pairwise.nil
    walk_at "vs"
    intro p hp
    walk_at "vs"
    intro p2 us hp2 hu1 hu2
    have hd := due_set hu1 hu2
    refine q p2 us _ (s1.trans ((same_new _ hp).trans (same_new _ hp2))) (s1.free ((same_new _ hp).free hp2)) upd_same ⟨hd.1, fun x => (hd.2 x).trans hpm'.mem_iff.symm⟩
  · rw [List.concat_eq_append] at hrs hpm hk ⊢
    obtain ⟨as0, b, rfl⟩ : ∃ as0 b, as = as0 ++ [b] := by
      rcases List.eq_nil_or_concat as with rfl | ⟨as0, b, rfl⟩
      · have := hrs.len; simp at this
      · exact ⟨as0, b, by rw [List.concat_eq_append]⟩
    obtain ⟨hr0, hb⟩ := hrs.cut
    rw [List.map_append] at e1
    refine itB_t (by simp) ?_
    refine ⟨fun σ' H' => Wr (∃ (as : List Addr) (ns : List Str) (t3 : Option V), σ' = [some (.ref a), some (.ref td), some (.ref nm), t3] ∧ Same H H' ∧ H' td = some (.lst (as.map V.ref)) ∧ H' nm = some (.lst (ns.map V.str)) ∧ IsRq H' as (rs0 ++ r0.kidL) ∧
      r.names.Perm (ns ++ allN (rs0 ++ r0.kidL))), ?_, ?_⟩
    · intro σ' H' hW
      obtain ⟨as, ns, t3, rfl, a1, a2, a3, a4, a5⟩ := hW.h
      have hn := nodes_kids r0
      rw [allK_app] at hk ⊢
      have e0 : allK [r0] = r0.nodes := by simp [allK]
      exact ⟨allK (rs0 ++ r0.kidL), by rw [allK_app]; omega, as, rs0 ++ r0.kidL, ns, t3, rfl, rfl, a1, a2, a3, a4, a5, by rw [allK_app]; omega⟩
    · have e1' : H1 td = some (.lst ((as0.map V.ref) ++ [V.ref b])) := e1
      have hlast : ((as0.map V.ref) ++ [V.ref b])[((as0.map V.ref) ++ [V.ref b]).length - 1]? = some (V.ref b) := by simp
      have nmtd : nm ≠ td := ne0.symm
      have hdl : ((as0.map V.ref) ++ [V.ref b]).dropLast = as0.map V.ref := List.dropLast_concat
      have tu : Tups H1 (upd H1 td (.lst ((as0.map V.ref) ++ [V.ref b]).dropLast)) := tups_set _ e1
      have s2 : Same H (upd H1 td (.lst ((as0.map V.ref) ++ [V.ref b]).dropLast)) := same_updN _ tdH s1
      have hb2 := hb.tups tu
      have hr2 := hr0.tups tu
      have e2' : upd H1 td (.lst ((as0.map V.ref) ++ [V.ref b]).dropLast) nm = some (.lst (ns.map V.str)) := by rw [upd_ne nmtd]; exact e2
      have e0 : allN [r0] = r0.names := by simp [allN]
      have hpm2 : r.names.Perm ((ns ++ r0.ownN) ++ allN (rs0 ++ r0.kidL)) := by
        refine hpm.trans ?_
        rw [allN_app, allN_app, e0, List.append_assoc]
        refine List.Perm.append_left _ ?_
        refine (List.Perm.append_left _ (names_kids r0)).trans ?_
        rw [← List.append_assoc, ← List.append_assoc]
        exact List.Perm.append_right _ List.perm_append_comm
      have hnsl : ns.length + r0.ownN.length ≤ 1000 := by
        have h1 := hpm2.length_eq
        rw [List.length_append, List.length_append] at h1
        omega
      have hrl : (as0.map V.ref).length + 3 ≤ sizeLine := by
        have h1 := hr0.len
        have h2 := allK_len rs0
        rw [allK_app] at hk
        rw [List.length_map, sizeLine_eq]; omega
      have fin : ∀ (H3 H4 : Hp) (p : Addr) (as' : List Addr), Same H H3 → Same H3 H4 → IsRq H3 as0 rs0 → H3 td = some (.lst (as0.map V.ref)) → H3 nm = some (.lst ((ns ++ r0.ownN).map V.str)) → H4 p = some (.tup (as'.map V.ref)) → IsRq H4 as' r0.kidL →
          H4 td = some (.lst ((as0.map V.ref) ++ [V.ref b]).dropLast) ∧ (((as0.map V.ref) ++ [V.ref b]).dropLast).length + (as'.map V.ref).length ≤ sizeLine ∧
          ∀ t3 : Option V, ∃ (as : List Addr) (ns : List Str) (t3' : Option V), [some (V.ref a), some (.ref td), some (.ref nm), t3] = [some (.ref a), some (.ref td), some (.ref nm), t3'] ∧ Same H (upd H4 td (.lst (((as0.map V.ref) ++ [V.ref b]).dropLast ++ as'.map V.ref))) ∧ upd H4 td (.lst (((as0.map V.ref) ++ [V.ref b]).dropLast ++ as'.map V.ref)) td = some (.lst (as.map V.ref)) ∧ upd H4 td (.lst (((as0.map V.ref) ++ [V.ref b]).dropLast ++ as'.map V.ref)) nm = some (.lst (ns.map V.str)) ∧ IsRq (upd H4 td (.lst (((as0.map V.ref) ++ [V.ref b]).dropLast ++ as'.map V.ref))) as (rs0 ++ r0.kidL) ∧
            r.names.Perm (ns ++ allN (rs0 ++ r0.kidL)) := by
        intro H3 H4 p as' k1 k2 k3 k4 k5 k6 k7
        have k8 : H4 td = some (.lst (as0.map V.ref)) := k2 _ _ k4
        have h3 : as'.length ≤ 3 := by rw [k7.len]; cases r0 <;> simp [R.kidL]
        have tz := tups_set (.lst (as0.map V.ref ++ as'.map V.ref)) k8
        rw [hdl]
        refine ⟨k8, by rw [List.length_map (as := as')]; omega, fun t3 => ⟨as0 ++ as', ns ++ r0.ownN, t3, rfl, same_updN _ tdH (k1.trans k2), by rw [List.map_append]; exact upd_same, by rw [upd_ne nmtd]; exact k2 _ _ k5, ((k3.same k2).tups tz).app (k7.tups tz), hpm2⟩⟩
      have h1000 : 1003 ≤ sizeLine := by rw [sizeLine_eq]; omega
      cases hb with
      | @num _ n e =>
        have hbt : b ≠ td := ne_of e e1 (by intro z; cases z)
        walk_at "vs"
        intro p as' H4 s4 e4 h4
        obtain ⟨f1, f2, f3⟩ := fin _ H4 p as' s2 s4 hr2 (by rw [hdl]; exact upd_same) (by rw [show (R.num n).ownN = [] from rfl, List.append_nil]; exact e2') e4 h4
        walk_at "vs"
        exact .mk (f3 _)
      | @rd _ x e =>
        have hbt : b ≠ td := ne_of e e1 (by intro z; cases z)
        have hbn : b ≠ nm := ne_of e e2 (by intro z; cases z)
        have hn3 : upd (upd H1 td (.lst ((as0.map V.ref) ++ [V.ref b]).dropLast)) nm (.lst (ns.map V.str ++ [V.str x])) nm = some (.lst ((ns ++ (R.rd x).ownN).map V.str)) := by rw [upd_same]; simp [R.ownN]
        have tv := tups_set (.lst (ns.map V.str ++ [V.str x])) e2'
        have s3 := same_updN (.lst (ns.map V.str ++ [V.str x])) nmH s2
        have hb3 := hb2.tups tv
        have hr3 := hr2.tups tv
        have hz : (ns.map V.str).length < sizeLine := by
          have hx : ns.length + ((R.rd x).ownN).length ≤ 1000 := hnsl
          rw [List.length_map]; omega
        walk_at "vs"
        intro p as' H4 s4 e4 h4
        obtain ⟨f1, f2, f3⟩ := fin _ H4 p as' s3 s4 hr3 (by rw [upd_ne ne0, hdl]; exact upd_same) hn3 e4 h4
        walk_at "vs"
        exact .mk (f3 _)
      | @bin _ c d op r1 r2 e h1 h2 =>
        have hbt : b ≠ td := ne_of e e1 (by intro z; cases z)
        have w1 : op.word ≠ "read" := by cases op <;> decide
        have w2 : op.word ≠ "choose" := by cases op <;> decide
        cases op
        all_goals
          walk_at "vs"
          intro p as' H4 s4 e4 h4
          obtain ⟨f1, f2, f3⟩ := fin _ H4 p as' s2 s4 hr2 (by rw [hdl]; exact upd_same) (by rw [show (R.bin _ r1 r2).ownN = [] from rfl, List.append_nil]; exact e2') e4 h4
          walk_at "vs"
          exact .mk (f3 _)
      | @pick _ c d g r1 r2 r3 e h1 h2 h3 =>
        have hbt : b ≠ td := ne_of e e1 (by intro z; cases z)
        walk_at "vs"
        intro p as' H4 s4 e4 h4
        obtain ⟨f1, f2, f3⟩ := fin _ H4 p as' s2 s4 hr2 (by rw [hdl]; exact upd_same) (by rw [show (R.pick r1 r2 r3).ownN = [] from rfl, List.append_nil]; exact e2') e4 h4
        walk_at "vs"
        exact .mk (f3 _)
      | @cho _ c d r1 ms e h1 h2 =>
        have hbt : b ≠ td := ne_of e e1 (by intro z; cases z)
        have hdt : d ≠ td := ne_of h2 e1 (by intro z; cases z)
        have hbn : b ≠ nm := ne_of e e2 (by intro z; cases z)
        have hn3 : upd (upd H1 td (.lst ((as0.map V.ref) ++ [V.ref b]).dropLast)) nm (.lst (ns.map V.str ++ ms.map V.str)) nm = some (.lst ((ns ++ (R.cho r1 ms).ownN).map V.str)) := by rw [upd_same]; simp [R.ownN]
        have tv := tups_set (.lst (ns.map V.str ++ ms.map V.str)) e2'
        have s3 := same_updN (.lst (ns.map V.str ++ ms.map V.str)) nmH s2
        have hb3 := hb2.tups tv
        have hr3 := hr2.tups tv
        have hz : (ns.map V.str).length + (ms.map V.str).length ≤ sizeLine := by
          have hx : ns.length + ((R.cho r1 ms).ownN).length ≤ 1000 := hnsl
          have hx2 : ns.length + ms.length ≤ 1000 := hx
          rw [List.length_map, List.length_map]; omega
        walk_at "vs"
        intro p as' H4 s4 e4 h4
        obtain ⟨f1, f2, f3⟩ := fin _ H4 p as' s3 s4 hr3 (by rw [upd_ne ne0, hdl]; exact upd_same) hn3 e4 h4
        walk_at "vs"
        exact .mk (f3 _)
end

section
variable {P : Program} {w : World} {K : PySem.W.Frag} {mg : Str → Option Value} {base : Heap}
noncomputable abbrev s_law_draw : Stmt := top 17
theorem sc_law_draw : FnScope ["deck", "many", "at", "found", "number"] ["deck", "many"] (defScope s_law_draw) := ⟨rfl, rfl, rfl, by decide +kernel, rfl, by decide +kernel, by decide +kernel⟩
theorem lo_law_draw_at : Loc (defScope s_law_draw) "at" := by decide +kernel
theorem vo_law_draw_deck : VarOk (defScope s_law_draw) "deck" := by decide +kernel
theorem gl_law_draw_len : (defScope s_law_draw).names.lookup ("len" : Str) = some NameKind.globalImplicit := by decide +kernel
theorem nn_law_draw_len : ("len" : Str) ≠ "__name__" := by decide +kernel
theorem db_law_draw_len : (("len" : Str) == ("__debug__" : Str)) = false := by decide +kernel
theorem lo_law_draw_found : Loc (defScope s_law_draw) "found" := by decide +kernel
theorem vo_law_draw_at : VarOk (defScope s_law_draw) "at" := by decide +kernel
theorem vo_law_draw_many : VarOk (defScope s_law_draw) "many" := by decide +kernel
theorem vo_law_draw_found : VarOk (defScope s_law_draw) "found" := by decide +kernel
theorem lo_law_draw_number : Loc (defScope s_law_draw) "number" := by decide +kernel
theorem vo_law_draw_number : VarOk (defScope s_law_draw) "number" := by decide +kernel
theorem ok_law_draw {f : Addr} {fd : FuncData} (T_law_draw : FnT K mg "_law_draw" s_law_draw ["deck", "many"] f fd) (T : Blt mg) : FnOk P w K mg base CX0 1 f fd ["deck", "many"] spDraw := by
  refine T_law_draw.F.okQ sc_law_draw (fun vs H Q E h => ?_) (fun cdv A outer s H vs Q E hr h => ?_)
  · obtain ⟨d, c, many, rfl, _⟩ := h
    rfl
  obtain ⟨d, c, many, rfl, ⟨cells, mode, k, ne, hd, hc, hne, h63, hk⟩, hm, hlog, q⟩ := h
  refine ⟨_, (qss_cons (qs_set (i := 2) sc_law_draw.nd rfl lo_law_draw_at (qe_op qop_mod (qe_ix qix_list (qe_var 0 vo_law_draw_deck) qe_int) (qe_callB qc_len_seq gl_law_draw_len T.b_len bt_len (qa_S (qe_ix qix_list (qe_var 0 vo_law_draw_deck) qe_int) qa_nil) nn_law_draw_len db_law_draw_len)))
    (qss_cons (qs_asg (qe_op qop_add (qe_ix qix_list (qe_var 0 vo_law_draw_deck) qe_int) qe_int) (qg_sub (qe_var 0 vo_law_draw_deck) qe_int qset_list))
    (qss_cons (qs_if (qt_cmp qop_eq (qe_ix qix_list (qe_var 0 vo_law_draw_deck) qe_int) qe_int (nomarkQ _)) (qss_cons (qs_set (i := 3) sc_law_draw.nd rfl lo_law_draw_found (qe_op qop_mod (qe_ix qix_list (qe_ix qix_list (qe_var 0 vo_law_draw_deck) qe_int) (qe_var 2 vo_law_draw_at)) (qe_var 1 vo_law_draw_many)))
    (qss_cons (qs_asg (qe_op qop_fdiv (qe_ix qix_list (qe_ix qix_list (qe_var 0 vo_law_draw_deck) qe_int) (qe_var 2 vo_law_draw_at)) (qe_var 1 vo_law_draw_many)) (qg_sub (qe_ix qix_list (qe_var 0 vo_law_draw_deck) qe_int) (qe_var 2 vo_law_draw_at) qset_list))
    (qss_one (qs_ret (qe_var 3 vo_law_draw_found))))) qss_nil)
    (qss_cons (qs_set (i := 4) sc_law_draw.nd rfl lo_law_draw_number (qe_op qop_mod (qe_op qop_add (qe_op qop_mul (qe_op qop_mod (qe_ix qix_list (qe_ix qix_list (qe_var 0 vo_law_draw_deck) qe_int) (qe_var 2 vo_law_draw_at)) qe_int) qe_int) (qe_op qop_mul (qe_ix qix_list (qe_var 0 vo_law_draw_deck) qe_int) qe_int)) qe_int))
    (qss_cons (qs_set (i := 4) sc_law_draw.nd rfl lo_law_draw_number (qe_op qop_mod (qe_op qop_mul (qe_var 4 vo_law_draw_number) (qe_var 4 vo_law_draw_number)) qe_int))
    (qss_one (qs_ret (qe_op qop_mod (qe_op qop_fdiv (qe_op qop_mod (qe_op qop_add (qe_op qop_mul (qe_var 4 vo_law_draw_number) qe_int) (qe_ix qix_list (qe_var 0 vo_law_draw_deck) qe_int)) qe_int) qe_int) (qe_var 1 vo_law_draw_many))))))))), ?_⟩
  have hlen : 0 < ((cells.map V.int).length : Int) := by rw [List.length_map]; have := List.length_pos_iff.mpr hne; omega
  obtain ⟨v, j, hat, hix, hj, hset⟩ := at_ok (xs := cells) (i := k % ((cells.map V.int).length : Int)) (Int.emod_nonneg _ (by omega)) (Int.emod_lt_of_pos _ hlen)
  walk_at "vs"
  refine ite2 (fun c1 => ?_) (fun c1 => ?_)
  · walk_at "vs"
    refine q _ _ (Int.emod_nonneg _ (by omega)) (Int.emod_lt_of_pos _ hm) ((But.set _ (by simp)).trans (But.set _ (by simp))) ⟨cells.set j (v / many), mode, k + 1, ne, (upd_ne ne).trans upd_same, ?_, ?_, ?_, by omega⟩
    · rw [← hset]; exact upd_same
    · intro z
      have z' := congrArg List.length z
      rw [List.length_set, List.length_nil] at z'
      have := List.length_pos_iff.mpr hne
      omega
    · rw [List.length_set]; exact h63
  · walk_at "vs"
    exact q _ _ (Int.emod_nonneg _ (by omega)) (Int.emod_lt_of_pos _ hm) (But.set _ (by simp)) ⟨cells, mode, k + 1, ne, upd_same, (upd_ne (Ne.symm ne)).trans hc, hne, h63, by omega⟩
noncomputable abbrev s_law_name : Stmt := top 18
theorem sc_law_name : FnScope ["deck", "letters"] ["deck"] (defScope s_law_name) := ⟨rfl, rfl, rfl, by decide +kernel, rfl, by decide +kernel, by decide +kernel⟩
theorem gl_law_name__law_draw : (defScope s_law_name).names.lookup ("_law_draw" : Str) = some NameKind.globalImplicit := by decide +kernel
theorem vo_law_name_deck : VarOk (defScope s_law_name) "deck" := by decide +kernel
theorem db_law_name__law_draw : (("_law_draw" : Str) == ("__debug__" : Str)) = false := by decide +kernel
theorem lo_law_name_letters : Loc (defScope s_law_name) "letters" := by decide +kernel
theorem gl_law_name_range : (defScope s_law_name).names.lookup ("range" : Str) = some NameKind.globalImplicit := by decide +kernel
theorem ok_law_name {f g : Addr} {fd gd : FuncData} (T_law_name : FnT K mg "_law_name" s_law_name ["deck"] f fd) (T_law_draw : FnT K mg "_law_draw" s_law_draw ["deck", "many"] g gd)
    (G_law_draw : FnOk P w K mg base CX0 1 g gd ["deck", "many"] spDraw) (T : Blt mg) : FnOk P w K mg base CX0 2 f fd ["deck"] spName := by
  refine T_law_name.F.okQ sc_law_name (fun vs H Q E h => ?_) (fun cdv A outer s H vs Q E hr h => ?_)
  · obtain ⟨d, c, rfl, _⟩ := h
    rfl
  obtain ⟨d, c, rfl, hD, q⟩ := h
  refine ⟨_, (qss_cons (qs_if (qt_cmp qop_gt (qe_call (G_law_draw.mono (by omega)) hr gl_law_name__law_draw T_law_draw.m T_law_draw.F.kp T_law_draw.b .nil pass0 (qa_N (qe_var 0 vo_law_name_deck) (qa_C qe_int qa_nil)) db_law_name__law_draw) qe_int (nomarkQ _)) (qss_one (qs_ret (qe_ix qix_list (qe_lst (qa_C qe_str (qa_C qe_str (qa_C qe_str (qa_C qe_str (qa_C qe_str (qa_C qe_str qa_nil))))))) (qe_call (G_law_draw.mono (by omega)) hr gl_law_name__law_draw T_law_draw.m T_law_draw.F.kp T_law_draw.b .nil pass0 (qa_N (qe_var 0 vo_law_name_deck) (qa_C qe_int qa_nil)) db_law_name__law_draw)))) qss_nil)
    (qss_cons (qs_set (i := 1) sc_law_name.nd rfl lo_law_name_letters qe_str)
    (qss_one (qs_ret (qe_bm PySem.F.plainAttrs_str PySem.F.slot_str_join PySem.F.type_str_join qmt_join qe_str (qa_M (qe_comp rfl (n := 1) (fr := [1, 0]) (N := ["k", "letters", "deck"]) (cs_mk (scX := defScope s_law_name) (NX := ["deck", "letters"]) rfl rfl (by decide +kernel)) (qi_range1 gl_law_name_range T.b_range (qa_B (qe_op qop_add qe_int (qe_call (G_law_draw.mono (by omega)) hr gl_law_name__law_draw T_law_draw.m T_law_draw.F.kp T_law_draw.b .nil pass0 (qa_N (qe_var 0 vo_law_name_deck) (qa_C qe_int qa_nil)) db_law_name__law_draw)) qa_nil)) (fun _ _ _ _ _ => (qgx (i := 0) (show List.Nodup (α := Str) ["k", "letters", "deck"] by decide) (locC (by decide +kernel)))) (fun _ _ _ _ _ => qi_nil) (fun _ _ _ _ _ => (qe_ix qix_str (qe_var 1 (VarC.ok (by decide +kernel))) (qe_call (G_law_draw.mono (by omega)) hr (glC (by decide +kernel)) T_law_draw.m T_law_draw.F.kp T_law_draw.b .nil pass0 (qa_N (qe_var 2 (VarC.ok (by decide +kernel))) (qa_C qe_int qa_nil)) db_law_name__law_draw)))) qa_nil)))))), ?_⟩
  walk_at "vs"
  intro n1 H1 a1 a2 b1 D1
  walk_at "vs"
  refine ite2 (fun c1 => ?_) (fun c1 => ?_)
  · walk_at "vs"
    intro p hp
    have D2 := D1.same (same_new (.lst [V.str "a", V.str "b", V.str "ab", V.str "x", V.str "y", V.str "zzzzzzzz"]) hp)
    walk_at "vs"
    intro n2 H2 e1 e2 b2 D3
    have hl := b2 p _ (D1.fresh hp) upd_same
    obtain ⟨x, hx, gx⟩ := six e1 e2
    walk_at "vs"
    exact q x H2 gx (b1.trans ((But.new _ hp).trans b2)) D3
  · walk_at "vs"
    intro n2 H2 e1 e2 b2 D2
    walk_at "vs"
    intro Dd hDd
    refine comp_range (fun i σ' H' => (∃ t, σ' = t :: [some (.str "abcdefghijklmnopqrstuvwxyz"), some (.ref d)]) ∧ ∃ ts : List Str, H' Dd = some (.lst (ts.map V.str)) ∧ ts.length = i ∧ (∀ x ∈ ts, OneLow x) ∧ But [d, c] H2 H' ∧ DeckAt H' d c) ?_ ?_ ?_
    · exact ⟨⟨none, rfl⟩, [], upd_same, rfl, by simp, (But.refl _ _).upd _ hDd, D2.upd _ (D2.fresh hDd)⟩
    · intro i σ' H' hi hP
      obtain ⟨⟨t, rfl⟩, ts, e, el, ho, hb, hDk⟩ := hP
      walk_at "vs"
      intro n3 H3 f1 f2 b3 D3
      obtain ⟨ch, hch, lo⟩ := letter f1 f2
      have hnin : Dd ∉ [d, c] := D2.fresh hDd
      have hl := b3 Dd _ hnin e
      have hz : (ts.map V.str).length < sizeLine := by rw [List.length_map]; exact small1000 (by omega)
      walk_at "vs"
      refine ⟨⟨_, rfl⟩, ts ++ [⟨#[ch]⟩], ?_, by rw [List.length_append, el]; rfl, ?_, (hb.trans b3).upd _ hDd, D3.upd _ hnin⟩
      · rw [List.map_append]; exact upd_same
      · intro x hx
        rcases List.mem_append.mp hx with z | z
        · exact ho x z
        · have : x = ⟨#[ch]⟩ := by simpa using z
          exact ⟨ch, this, lo⟩
    · intro σ' H' hP
      obtain ⟨_, ts, e, el, ho, hb, hDk⟩ := hP
      have hjo : JoinOk "" ts = true := joinOk (k := 1) (fun x hx => by obtain ⟨c', rfl, _⟩ := ho x hx; exact Nat.le_refl _) (by
        have : ("" : Str).length = 0 := by decide +kernel
        rw [this]; omega)
      walk_at "vs"
      exact q _ H' (join_name ho (by omega) (by omega)) (b1.trans (b2.trans hb)) hDk
noncomputable abbrev s_law_number : Stmt := top 19
theorem sc_law_number : FnScope ["deck", "great"] ["deck"] (defScope s_law_number) := ⟨rfl, rfl, rfl, by decide +kernel, rfl, by decide +kernel, by decide +kernel⟩
theorem gl_law_number__law_draw : (defScope s_law_number).names.lookup ("_law_draw" : Str) = some NameKind.globalImplicit := by decide +kernel
theorem vo_law_number_deck : VarOk (defScope s_law_number) "deck" := by decide +kernel
theorem db_law_number__law_draw : (("_law_draw" : Str) == ("__debug__" : Str)) = false := by decide +kernel
theorem lo_law_number_great : Loc (defScope s_law_number) "great" := by decide +kernel
theorem vo_law_number_great : VarOk (defScope s_law_number) "great" := by decide +kernel
theorem ok_law_number {f g : Addr} {fd gd : FuncData} (T_law_number : FnT K mg "_law_number" s_law_number ["deck"] f fd) (T_law_draw : FnT K mg "_law_draw" s_law_draw ["deck", "many"] g gd)
    (G_law_draw : FnOk P w K mg base CX0 1 g gd ["deck", "many"] spDraw) : FnOk P w K mg base CX0 2 f fd ["deck"] spNumber := by
  refine T_law_number.F.okQ sc_law_number (fun vs H Q E h => ?_) (fun cdv A outer s H vs Q E hr h => ?_)
  · obtain ⟨d, c, rfl, _⟩ := h
    rfl
  obtain ⟨d, c, rfl, hD, q⟩ := h
  refine ⟨_, (qss_cons (qs_if (qt_cmp qop_gt (qe_call (G_law_draw.mono (by omega)) hr gl_law_number__law_draw T_law_draw.m T_law_draw.F.kp T_law_draw.b .nil pass0 (qa_N (qe_var 0 vo_law_number_deck) (qa_C qe_int qa_nil)) db_law_number__law_draw) qe_int (nomarkQ _)) (qss_one (qs_ret (qe_op qop_sub (qe_call (G_law_draw.mono (by omega)) hr gl_law_number__law_draw T_law_draw.m T_law_draw.F.kp T_law_draw.b .nil pass0 (qa_N (qe_var 0 vo_law_number_deck) (qa_C qe_int qa_nil)) db_law_number__law_draw) qe_int))) qss_nil)
    (qss_cons (qs_set (i := 1) sc_law_number.nd rfl lo_law_number_great (qe_op qop_sub (qe_op qop_pow qe_int qe_int) qe_int))
    (qss_one (qs_ret (qe_op qop_sub (qe_call (G_law_draw.mono (by omega)) hr gl_law_number__law_draw T_law_draw.m T_law_draw.F.kp T_law_draw.b .nil pass0 (qa_N (qe_var 0 vo_law_number_deck) (qa_B (qe_op qop_add (qe_op qop_mul qe_int (qe_var 1 vo_law_number_great)) qe_int) qa_nil)) db_law_number__law_draw) (qe_var 1 vo_law_number_great)))))), ?_⟩
  walk_at "vs"
  intro n1 H1 a1 a2 b1 D1
  walk_at "vs"
  refine ite2 (fun c1 => ?_) (fun c1 => ?_)
  · walk_at "vs"
    intro n2 H2 e1 e2 b2 D2
    walk_at "vs"
    exact q _ H2 (by show (n2 - 10).natAbs < 10 ^ 40; have : (10 : Nat) ^ 40 = 10000000000000000000000000000000000000000 := by decide +kernel
                     omega) (b1.trans b2) D2
  · walk_at "vs"
    intro n2 H2 e1 e2 b2 D2
    walk_at "vs"
    have z : (10 : Int) ^ (Int.toNat 40) = 10000000000000000000000000000000000000000 := by decide +kernel
    have z' : (10 : Nat) ^ 40 = 10000000000000000000000000000000000000000 := by decide +kernel
    have e2' : n2 < 2 * ((10 : Int) ^ (Int.toNat 40) - 1) + 1 := e2
    refine q _ H2 ?_ (b1.trans b2) D2
    show (n2 - ((10 : Int) ^ (Int.toNat 40) - 1)).natAbs < 10 ^ 40
    rw [z] at e2' ⊢
    rw [z']
    omega
end

section
variable {P : Program} {w : World} {K : PySem.W.Frag} {mg : Str → Option Value} {base : Heap}
noncomputable abbrev s_law_recipe : Stmt := top 20
theorem sc_law_recipe : FnScope ["deck", "deep", "left", "kind", "one", "word", "two"] ["deck", "deep", "left"] (defScope s_law_recipe) := ⟨rfl, rfl, rfl, by decide +kernel, rfl, by decide +kernel, by decide +kernel⟩
theorem vo_law_recipe_left : VarOk (defScope s_law_recipe) "left" := by decide +kernel
theorem lo_law_recipe_kind : Loc (defScope s_law_recipe) "kind" := by decide +kernel
theorem gl_law_recipe__law_draw : (defScope s_law_recipe).names.lookup ("_law_draw" : Str) = some NameKind.globalImplicit := by decide +kernel
theorem vo_law_recipe_deck : VarOk (defScope s_law_recipe) "deck" := by decide +kernel
theorem db_law_recipe__law_draw : (("_law_draw" : Str) == ("__debug__" : Str)) = false := by decide +kernel
theorem vo_law_recipe_kind : VarOk (defScope s_law_recipe) "kind" := by decide +kernel
theorem vo_law_recipe_deep : VarOk (defScope s_law_recipe) "deep" := by decide +kernel
theorem gl_law_recipe__law_number : (defScope s_law_recipe).names.lookup ("_law_number" : Str) = some NameKind.globalImplicit := by decide +kernel
theorem db_law_recipe__law_number : (("_law_number" : Str) == ("__debug__" : Str)) = false := by decide +kernel
theorem gl_law_recipe__law_name : (defScope s_law_recipe).names.lookup ("_law_name" : Str) = some NameKind.globalImplicit := by decide +kernel
theorem db_law_recipe__law_name : (("_law_name" : Str) == ("__debug__" : Str)) = false := by decide +kernel
theorem lo_law_recipe_one : Loc (defScope s_law_recipe) "one" := by decide +kernel
theorem gl_law_recipe__law_recipe : (defScope s_law_recipe).names.lookup ("_law_recipe" : Str) = some NameKind.globalImplicit := by decide +kernel
theorem db_law_recipe__law_recipe : (("_law_recipe" : Str) == ("__debug__" : Str)) = false := by decide +kernel
theorem lo_law_recipe_word : Loc (defScope s_law_recipe) "word" := by decide +kernel
theorem vo_law_recipe_one : VarOk (defScope s_law_recipe) "one" := by decide +kernel
theorem vo_law_recipe_word : VarOk (defScope s_law_recipe) "word" := by decide +kernel
theorem lo_law_recipe_two : Loc (defScope s_law_recipe) "two" := by decide +kernel
theorem vo_law_recipe_two : VarOk (defScope s_law_recipe) "two" := by decide +kernel
theorem gl_law_recipe_tuple : (defScope s_law_recipe).names.lookup ("tuple" : Str) = some NameKind.globalImplicit := by decide +kernel
theorem gl_law_recipe_range : (defScope s_law_recipe).names.lookup ("range" : Str) = some NameKind.globalImplicit := by decide +kernel
theorem nn_law_recipe_tuple : ("tuple" : Str) ≠ "__name__" := by decide +kernel
theorem db_law_recipe_tuple : (("tuple" : Str) == ("__debug__" : Str)) = false := by decide +kernel
theorem step_law_recipe {m : Nat} {f g1 g2 g3 : Addr} {fd gd1 gd2 gd3 : FuncData} (T_law_recipe : FnT K mg "_law_recipe" s_law_recipe ["deck", "deep", "left"] f fd)
    (T_law_draw : FnT K mg "_law_draw" s_law_draw ["deck", "many"] g1 gd1) (G_law_draw : FnOk P w K mg base CX0 1 g1 gd1 ["deck", "many"] spDraw)
    (T_law_name : FnT K mg "_law_name" s_law_name ["deck"] g2 gd2) (G_law_name : FnOk P w K mg base CX0 2 g2 gd2 ["deck"] spName)
    (T_law_number : FnT K mg "_law_number" s_law_number ["deck"] g3 gd3) (G_law_number : FnOk P w K mg base CX0 2 g3 gd3 ["deck"] spNumber)
    (G_law_recipe : FnOk P w K mg base CX0 (m + 2) f fd ["deck", "deep", "left"] (spRec2 m)) (T : Blt mg) : FnOk P w K mg base CX0 (m + 3) f fd ["deck", "deep", "left"] (spRec2 (m + 1)) := by
  refine T_law_recipe.F.okQ sc_law_recipe (fun vs H Q E h => ?_) (fun cdv A outer s H vs Q E hr h => ?_)
  · obtain ⟨d, c, l, deep, k, rfl, _⟩ := h
    rfl
  obtain ⟨d, c, l, deep, k, rfl, hD, hl, ld, lc, h1, h2, q⟩ := h
  have lnin : l ∉ [d, c] := by simp [ld, lc]
  refine ⟨_, (qss_cons (qs_asg (qe_op qop_sub (qe_ix qix_list (qe_var 2 vo_law_recipe_left) qe_int) qe_int) (qg_sub (qe_var 2 vo_law_recipe_left) qe_int qset_list))
    (qss_cons (qs_set (i := 3) sc_law_recipe.nd rfl lo_law_recipe_kind (qe_call (G_law_draw.mono (by omega)) hr gl_law_recipe__law_draw T_law_draw.m T_law_draw.F.kp T_law_draw.b .nil pass0 (qa_N (qe_var 0 vo_law_recipe_deck) (qa_C qe_int qa_nil)) db_law_recipe__law_draw))
    (qss_cons (qs_if (qt_w (qw_or (qt_cmp qop_lt (qe_var 1 vo_law_recipe_deep) qe_int (nomarkQ _)) (qw_or (qt_cmp qop_lt (qe_ix qix_list (qe_var 2 vo_law_recipe_left) qe_int) qe_int (nomarkQ _)) (qw_or1 (qt_cmp qop_lt (qe_var 3 vo_law_recipe_kind) qe_int (nomarkQ _)))))) (qss_cons (qs_if (qt_cmp qop_eq (qe_call (G_law_draw.mono (by omega)) hr gl_law_recipe__law_draw T_law_draw.m T_law_draw.F.kp T_law_draw.b .nil pass0 (qa_N (qe_var 0 vo_law_recipe_deck) (qa_C qe_int qa_nil)) db_law_recipe__law_draw) qe_int (nomarkQ _)) (qss_one (qs_ret (qe_tup (qa_C qe_str (qa_F (qe_call (G_law_number.mono (by omega)) hr gl_law_recipe__law_number T_law_number.m T_law_number.F.kp T_law_number.b .nil pass0 (qa_N (qe_var 0 vo_law_recipe_deck) qa_nil) db_law_recipe__law_number) qa_nil))))) qss_nil)
    (qss_one (qs_ret (qe_tup (qa_C qe_str (qa_F (qe_call (G_law_name.mono (by omega)) hr gl_law_recipe__law_name T_law_name.m T_law_name.F.kp T_law_name.b .nil pass0 (qa_N (qe_var 0 vo_law_recipe_deck) qa_nil) db_law_recipe__law_name) qa_nil)))))) qss_nil)
    (qss_cons (qs_set (i := 4) sc_law_recipe.nd rfl lo_law_recipe_one (qe_call (G_law_recipe.mono (by omega)) hr gl_law_recipe__law_recipe T_law_recipe.m T_law_recipe.F.kp T_law_recipe.b .nil pass0 (qa_N (qe_var 0 vo_law_recipe_deck) (qa_B (qe_op qop_sub (qe_var 1 vo_law_recipe_deep) qe_int) (qa_N (qe_var 2 vo_law_recipe_left) qa_nil))) db_law_recipe__law_recipe))
    (qss_cons (qs_if (qt_cmp qop_lt (qe_var 3 vo_law_recipe_kind) qe_int (nomarkQ _)) (qss_cons (qs_set (i := 5) sc_law_recipe.nd rfl lo_law_recipe_word (qe_ix qix_list (qe_lst (qa_C qe_str (qa_C qe_str (qa_C qe_str (qa_C qe_str (qa_C qe_str qa_nil)))))) (qe_op qop_sub (qe_var 3 vo_law_recipe_kind) qe_int)))
    (qss_one (qs_ret (qe_tup (qa_N (qe_var 5 vo_law_recipe_word) (qa_N (qe_var 4 vo_law_recipe_one) (qa_F (qe_call (G_law_recipe.mono (by omega)) hr gl_law_recipe__law_recipe T_law_recipe.m T_law_recipe.F.kp T_law_recipe.b .nil pass0 (qa_N (qe_var 0 vo_law_recipe_deck) (qa_B (qe_op qop_sub (qe_var 1 vo_law_recipe_deep) qe_int) (qa_N (qe_var 2 vo_law_recipe_left) qa_nil))) db_law_recipe__law_recipe) qa_nil))))))) qss_nil)
    (qss_cons (qs_if (qt_cmp qop_eq (qe_var 3 vo_law_recipe_kind) qe_int (nomarkQ _)) (qss_cons (qs_set (i := 6) sc_law_recipe.nd rfl lo_law_recipe_two (qe_call (G_law_recipe.mono (by omega)) hr gl_law_recipe__law_recipe T_law_recipe.m T_law_recipe.F.kp T_law_recipe.b .nil pass0 (qa_N (qe_var 0 vo_law_recipe_deck) (qa_B (qe_op qop_sub (qe_var 1 vo_law_recipe_deep) qe_int) (qa_N (qe_var 2 vo_law_recipe_left) qa_nil))) db_law_recipe__law_recipe))
    (qss_one (qs_ret (qe_tup (qa_C qe_str (qa_N (qe_var 4 vo_law_recipe_one) (qa_N (qe_var 6 vo_law_recipe_two) (qa_F (qe_call (G_law_recipe.mono (by omega)) hr gl_law_recipe__law_recipe T_law_recipe.m T_law_recipe.F.kp T_law_recipe.b .nil pass0 (qa_N (qe_var 0 vo_law_recipe_deck) (qa_B (qe_op qop_sub (qe_var 1 vo_law_recipe_deep) qe_int) (qa_N (qe_var 2 vo_law_recipe_left) qa_nil))) db_law_recipe__law_recipe) qa_nil)))))))) qss_nil)
    (qss_one (qs_ret (qe_tup (qa_C qe_str (qa_N (qe_var 4 vo_law_recipe_one) (qa_F (qe_callTy qc_tuple_of gl_law_recipe_tuple T.b_tuple bt_tuple (qa_M (qe_comp rfl (n := 1) (fr := [0]) (N := ["k", "deck"]) (cs_mk (scX := defScope s_law_recipe) (NX := ["deck", "deep", "left", "kind", "one", "word", "two"]) rfl rfl (by decide +kernel)) (qi_range1 gl_law_recipe_range T.b_range (qa_B (qe_op qop_add qe_int (qe_call (G_law_draw.mono (by omega)) hr gl_law_recipe__law_draw T_law_draw.m T_law_draw.F.kp T_law_draw.b .nil pass0 (qa_N (qe_var 0 vo_law_recipe_deck) (qa_C qe_int qa_nil)) db_law_recipe__law_draw)) qa_nil)) (fun _ _ _ _ _ => (qgx (i := 0) (show List.Nodup (α := Str) ["k", "deck"] by decide) (locC (by decide +kernel)))) (fun _ _ _ _ _ => qi_nil) (fun _ _ _ _ _ => (qe_call (G_law_name.mono (by omega)) hr (glC (by decide +kernel)) T_law_name.m T_law_name.F.kp T_law_name.b .nil pass0 (qa_N (qe_var 1 (VarC.ok (by decide +kernel))) qa_nil) db_law_recipe__law_name))) qa_nil) nn_law_recipe_tuple db_law_recipe_tuple) qa_nil)))))))))))), ?_⟩
  walk_at "vs"
  have D0 : DeckAt (upd H l (.lst [.int (k - 1)])) d c := hD.upd _ lnin
  have B0 : But [d, c, l] H (upd H l (.lst [.int (k - 1)])) := But.set _ (by simp)
  walk_at "vs"
  intro n1 H1 a1 a2 b1 D1
  have hl1 : H1 l = some (.lst [.int (k - 1)]) := b1 l _ lnin upd_same
  have B1 : But [d, c, l] H H1 := B0.trans (b1.mono (by simp))
  walk_at "vs"
  refine ite2 (fun c1 => ?_) (fun c1 => ?_)
  rotate_left
  walk_at "vs"
  refine ite2 (fun c2 => ?_) (fun c2 => ?_)
  rotate_left
  walk_at "vs"
  refine ite2 (fun c3 => ?_) (fun c3 => ?_)
  rotate_left
  · have d1 : ¬ deep < 2 := by simpa using c1
    have d2 : ¬ k - 1 < 1 := by simpa using c2
    have hm2 : (2 : Int) ≤ ((m + 1 : Nat) : Int) := by omega
    have d3 : ¬ n1 < 2 := by simpa using c3
    walk_at "vs"
    intro x1 r1 k1 H2 g1' dp1 ⟨z1, z2, z3⟩ b2 D2 hl2 R1
    walk_at "vs"
    refine ite2 (fun c4 => ?_) (fun c4 => ?_)
    · have d4 : n1 < 7 := by simpa using c4
      obtain ⟨op, hop⟩ := five (n := n1) (by omega) d4
      walk_at "vs"
      intro p hp
      have D3 := D2.same (same_new (.lst [V.str "plus", V.str "minus", V.str "times", V.str "most", V.str "plus"]) hp)
      have hl3 := (same_new (.lst [V.str "plus", V.str "minus", V.str "times", V.str "most", V.str "plus"]) hp) l _ hl2
      walk_at "vs"
      intro x2 r2 k2 H3 g2' dp2 ⟨y1, y2, y3⟩ b3 D4 hl4 R2
      walk_at "vs"
      intro p2 hp2
      have R1' : IsR (upd H3 p2 (.tup [.str op.word, .ref x1, .ref x2])) x1 r1 := ((R1.same (same_new _ hp)).tups (deck_tups D3 hl3 b3)).same (same_new _ hp2)
      refine q p2 (.bin op r1 r2) k2 _ ⟨g1', g2'⟩ ?_ ⟨by show ((1 + r1.nodes + r2.nodes : Nat) : Int) = _; omega, by omega, by omega⟩ (B1.trans (b2.trans ((But.new _ hp).trans (b3.trans (But.new _ hp2))))) (D4.same (same_new _ hp2)) (same_new _ hp2 _ _ hl4) (.bin upd_same R1' (R2.same (same_new _ hp2)))
      show max r1.depth r2.depth + 1 ≤ m + 1
      omega
    · walk_at "vs"
      refine ite2 (fun c5 => ?_) (fun c5 => ?_)
      · walk_at "vs"
        intro x2 r2 k2 H3 g2' dp2 ⟨y1, y2, y3⟩ b3 D3 hl3 R2
        have R1' := R1.tups (deck_tups D2 hl2 b3)
        walk_at "vs"
        intro x3 r3 k3 H4 g3' dp3 ⟨u1, u2, u3⟩ b4 D4 hl4 R3
        have R1'' := R1'.tups (deck_tups D3 hl3 b4)
        have R2' := R2.tups (deck_tups D3 hl3 b4)
        walk_at "vs"
        intro p2 hp2
        refine q p2 (.pick r1 r2 r3) k3 _ ⟨g1', g2', g3'⟩ ?_ ⟨by show ((1 + r1.nodes + r2.nodes + r3.nodes : Nat) : Int) = _; omega, by omega, by omega⟩ (B1.trans (b2.trans (b3.trans (b4.trans (But.new _ hp2))))) (D4.same (same_new _ hp2)) (same_new _ hp2 _ _ hl4) (.pick upd_same (R1''.same (same_new _ hp2)) (R2'.same (same_new _ hp2)) (R3.same (same_new _ hp2)))
        show max r1.depth (max r2.depth r3.depth) + 1 ≤ m + 1
        omega
      · walk_at "vs"
        intro n2 H3 e1 e2 b3 D3
        have R1' := R1.tups (D2.tups b3)
        have lnin2 : l ∉ [d, c] := lnin
        have hl3 := b3 l _ lnin hl2
        walk_at "vs"
        intro Dd hDd
        refine comp_range (fun i σ' H' => (∃ t, σ' = t :: [some (.ref d)]) ∧ ∃ ts : List Str, H' Dd = some (.lst (ts.map V.str)) ∧ ts.length = i ∧ (∀ x ∈ ts, GName x) ∧ But [d, c] H3 H' ∧ DeckAt H' d c) ?_ ?_ ?_
        · exact ⟨⟨none, rfl⟩, [], upd_same, rfl, by simp, (But.refl _ _).upd _ hDd, D3.upd _ (D3.fresh hDd)⟩
        · intro i σ' H' hi hP
          obtain ⟨⟨t, rfl⟩, ts, e, el, ho, hb, hDk⟩ := hP
          walk_at "vs"
          intro x H4 gx b4 D4
          have hnin : Dd ∉ [d, c] := D3.fresh hDd
          have hll := b4 Dd _ hnin e
          have hz : (ts.map V.str).length < sizeLine := by rw [List.length_map]; exact small1000 (by omega)
          walk_at "vs"
          refine ⟨⟨_, rfl⟩, ts ++ [x], ?_, by rw [List.length_append, el]; rfl, ?_, (hb.trans b4).upd _ hDd, D4.upd _ hnin⟩
          · rw [List.map_append]; exact upd_same
          · intro y hy
            rcases List.mem_append.mp hy with z | z
            · exact ho y z
            · have : y = x := by simpa using z
              rw [this]; exact gx
        · intro σ' H' hP
          obtain ⟨_, ts, e, el, ho, hb, hDk⟩ := hP
          walk_at "vs"
          intro pt hpt
          have hlt := hb l _ lnin hl3
          have R1'' := (R1'.tups (D3.tups hb)).same (same_new (.tup (ts.map V.str)) hpt)
          walk_at "vs"
          intro p2 hp2
          refine q p2 (.cho r1 ts) k1 _ ⟨g1', by omega, by omega, ho⟩ ?_ ⟨by show ((1 + r1.nodes : Nat) : Int) = _; omega, by omega, by omega⟩ (B1.trans (b2.trans ((b3.mono (by simp)).trans ((hb.mono (by simp)).trans ((But.new _ hpt).trans (But.new _ hp2)))))) ((hDk.same (same_new _ hpt)).same (same_new _ hp2))
            (same_new _ hp2 _ _ (same_new _ hpt _ _ hlt)) (.cho upd_same (R1''.same (same_new _ hp2)) (same_new _ hp2 _ _ upd_same))
          show r1.depth + 1 ≤ m + 1
          omega
  all_goals
    walk_at "vs"
    intro n2 H2 e1 e2 b2 D2
    have hl2 := b2 l _ lnin hl1
    walk_at "vs"
    refine ite2 (fun c4 => ?_) (fun c4 => ?_)
    · walk_at "vs"
      intro n3 H3 g3' b3 D3
      have hl3 := b3 l _ lnin hl2
      walk_at "vs"
      intro p2 hp2
      exact q p2 (.num n3) (k - 1) _ g3' (by show 1 ≤ m + 1; omega) ⟨by show ((1 : Nat) : Int) = _; omega, by omega, by omega⟩ (B1.trans ((b2.mono (by simp)).trans ((b3.mono (by simp)).trans (But.new _ hp2)))) (D3.same (same_new _ hp2)) (same_new _ hp2 _ _ hl3) (.num upd_same)
    · walk_at "vs"
      intro x3 H3 g3' b3 D3
      have hl3 := b3 l _ lnin hl2
      walk_at "vs"
      intro p2 hp2
      exact q p2 (.rd x3) (k - 1) _ g3' (by show 1 ≤ m + 1; omega) ⟨by show ((1 : Nat) : Int) = _; omega, by omega, by omega⟩ (B1.trans ((b2.mono (by simp)).trans ((b3.mono (by simp)).trans (But.new _ hp2)))) (D3.same (same_new _ hp2)) (same_new _ hp2 _ _ hl3) (.rd upd_same)
theorem ok_law_recipe {f g1 g2 g3 : Addr} {fd gd1 gd2 gd3 : FuncData} (T_law_recipe : FnT K mg "_law_recipe" s_law_recipe ["deck", "deep", "left"] f fd)
    (T_law_draw : FnT K mg "_law_draw" s_law_draw ["deck", "many"] g1 gd1) (G_law_draw : FnOk P w K mg base CX0 1 g1 gd1 ["deck", "many"] spDraw)
    (T_law_name : FnT K mg "_law_name" s_law_name ["deck"] g2 gd2) (G_law_name : FnOk P w K mg base CX0 2 g2 gd2 ["deck"] spName)
    (T_law_number : FnT K mg "_law_number" s_law_number ["deck"] g3 gd3) (G_law_number : FnOk P w K mg base CX0 2 g3 gd3 ["deck"] spNumber) (T : Blt mg) :
    ∀ m : Nat, FnOk P w K mg base CX0 (m + 2) f fd ["deck", "deep", "left"] (spRec2 m)
  | 0 => never fun vs H Q E h => by
    obtain ⟨d, c, l, deep, k, _, _, _, _, _, h1, h2, _⟩ := h
    omega
  | m + 1 => step_law_recipe T_law_recipe T_law_draw G_law_draw T_law_name G_law_name T_law_number G_law_number (ok_law_recipe T_law_recipe T_law_draw G_law_draw T_law_name G_law_name T_law_number G_law_number T m) T
end

section
variable {P : Program} {w : World} {K : PySem.W.Frag} {mg : Str → Option Value} {base : Heap}
noncomputable abbrev s_law_deck : Stmt := top 16
theorem sc_law_deck : FnScope ["script", "cells"] ["script"] (defScope s_law_deck) := ⟨rfl, rfl, rfl, by decide +kernel, rfl, by decide +kernel, by decide +kernel⟩
theorem lo_law_deck_cells : Loc (defScope s_law_deck) "cells" := by decide +kernel
theorem gl_law_deck_list : (defScope s_law_deck).names.lookup ("list" : Str) = some NameKind.globalImplicit := by decide +kernel
theorem vo_law_deck_script : VarOk (defScope s_law_deck) "script" := by decide +kernel
theorem nn_law_deck_list : ("list" : Str) ≠ "__name__" := by decide +kernel
theorem db_law_deck_list : (("list" : Str) == ("__debug__" : Str)) = false := by decide +kernel
theorem vo_law_deck_cells : VarOk (defScope s_law_deck) "cells" := by decide +kernel
theorem gl_law_deck_len : (defScope s_law_deck).names.lookup ("len" : Str) = some NameKind.globalImplicit := by decide +kernel
theorem nn_law_deck_len : ("len" : Str) ≠ "__name__" := by decide +kernel
theorem db_law_deck_len : (("len" : Str) == ("__debug__" : Str)) = false := by decide +kernel
theorem ok_law_deck {f : Addr} {fd : FuncData} (T_law_deck : FnT K mg "_law_deck" s_law_deck ["script"] f fd) (T : Blt mg) : FnOk P w K mg base CX0 1 f fd ["script"] (spDeck K) := by
  refine T_law_deck.F.okQ sc_law_deck (fun vs H Q E h => ?_) (fun cdv A outer s H vs Q E hr h => ?_)
  · obtain ⟨a, ns, rfl, _⟩ := h
    rfl
  obtain ⟨a, ns, rfl, hS, h63, q⟩ := h
  refine ⟨_, (qss_cons (qs_set (i := 1) sc_law_deck.nd rfl lo_law_deck_cells (qe_callTy qc_list_of gl_law_deck_list T.b_list bt_list (qa_S (qe_slice qsl_list (qe_var 0 vo_law_deck_script) qo_none (qo_some qe_int)) qa_nil) nn_law_deck_list db_law_deck_list))
    (qss_cons (qs_if (qt_cmp (qop_eqD hr.units) (qe_var 1 vo_law_deck_cells) (qe_lst qa_nil) (nomarkQ _)) (qss_one (qs_set (i := 1) sc_law_deck.nd rfl lo_law_deck_cells (qe_lst (qa_C qe_int qa_nil)))) qss_nil)
    (qss_one (qs_ret (qe_lst (qa_N (qe_var 1 vo_law_deck_cells) (qa_B (qe_op qop_mod (qe_callB qc_len_seq gl_law_deck_len T.b_len bt_len (qa_N (qe_var 0 vo_law_deck_script) qa_nil) nn_law_deck_len db_law_deck_len) qe_int) (qa_C qe_int qa_nil)))))))), ?_⟩
  have hcut := cut63 h63
  walk_at "vs"
  intro p hp
  rw [hcut]
  walk_at "vs"
  intro c hc
  walk_at "vs"
  intro e he
  have s1 := same_new (.lst (ns.map V.int)) hp
  have s2 := same_new (.lst (ns.map V.int)) hc
  have s3 := same_new (.lst []) he
  have hc3 : upd (upd (upd H p (.lst (ns.map V.int))) c (.lst (ns.map V.int))) e (.lst []) c = some (.lst (ns.map V.int)) := s3 _ _ upd_same
  have hS3 := s3.seq (s2.seq (s1.seq hS))
  have hcH : H c = none := s1.free hc
  refine ⟨.list (ns.map .int), .list ([].map .int), .lst (SqL.of hc3) (datVs_ints ns), .lst (SqL.of upd_same) .nil, shaped_ints ns, shaped_ints [], ?_⟩
  cases ns with
  | nil =>
    walk_at "vs"
    intro c' hc'
    have s4 := same_new (.lst [V.int 0]) hc'
    have hS4 := s4.seq hS3
    walk_at "vs"
    intro d hd
    refine q d c' _ (s1.trans (s2.trans (s3.trans (s4.trans (same_new _ hd))))) (s1.free (s2.free (s3.free (s4.free hd)))) (s1.free (s2.free (s3.free hc'))) ⟨[0], _, _, ?_, upd_same, ?_, by simp, by decide, by decide⟩
    · exact fun z => by rw [z, upd_same] at hd; cases hd
    · exact same_new _ hd _ _ upd_same
  | cons n r =>
    walk_at "vs"
    intro d hd
    refine q d c _ (s1.trans (s2.trans (s3.trans (same_new _ hd)))) (s1.free (s2.free (s3.free hd))) hcH ⟨n :: r, _, _, ?_, upd_same, ?_, by simp, h63, by decide⟩
    · exact fun z => by rw [z, hc3] at hd; cases hd
    · exact same_new _ hd _ _ hc3
end

section
variable {P : Program} {w : World} {K : PySem.W.Frag} {mg : Str → Option Value} {base : Heap}
theorem val_any : ∀ (kg : List (Key × V)) (k : Key), (valV kg k).isSome = kg.any fun q => decide (q.1 = k)
  | [], k => rfl
  | p :: kg, k => by
    have ih := val_any kg k
    unfold valV at ih ⊢
    rw [List.find?_cons, List.any_cons]
    cases h : decide (p.1 = k) with
    | true => rfl
    | false => rw [Bool.false_or]; exact ih
theorem rd_but {S : List Addr} {H H' : Hp} {a : Addr} {u : HO} (r : Rd H a u) (b : But S H H') (h : a ∉ S) : Rd H' a u := r.elim (fun z => .inl (b _ _ h z)) fun ⟨o, z⟩ => .inr ⟨o, b _ _ h z⟩
noncomputable abbrev s_is_house : Stmt := top 13
theorem sc_is_house : FnScope ["thing", "given", "recipes", "name", "number", "r"] ["thing"] (defScope s_is_house) := ⟨rfl, rfl, rfl, by decide +kernel, rfl, by decide +kernel, by decide +kernel⟩
theorem gl_is_house_len : (defScope s_is_house).names.lookup ("len" : Str) = some NameKind.globalImplicit := by decide +kernel
theorem vo_is_house_thing : VarOk (defScope s_is_house) "thing" := by decide +kernel
theorem nn_is_house_len : ("len" : Str) ≠ "__name__" := by decide +kernel
theorem db_is_house_len : (("len" : Str) == ("__debug__" : Str)) = false := by decide +kernel
theorem gl_is_house_isinstance : (defScope s_is_house).names.lookup ("isinstance" : Str) = some NameKind.globalImplicit := by decide +kernel
theorem gl_is_house_tuple : (defScope s_is_house).names.lookup ("tuple" : Str) = some NameKind.globalImplicit := by decide +kernel
theorem nn_is_house_tuple : ("tuple" : Str) ≠ "__name__" := by decide +kernel
theorem db_is_house_tuple : (("tuple" : Str) == ("__debug__" : Str)) = false := by decide +kernel
theorem nn_is_house_isinstance : ("isinstance" : Str) ≠ "__name__" := by decide +kernel
theorem db_is_house_isinstance : (("isinstance" : Str) == ("__debug__" : Str)) = false := by decide +kernel
theorem lo_is_house_given : Loc (defScope s_is_house) "given" := by decide +kernel
theorem lo_is_house_recipes : Loc (defScope s_is_house) "recipes" := by decide +kernel
theorem gl_is_house_dict : (defScope s_is_house).names.lookup ("dict" : Str) = some NameKind.globalImplicit := by decide +kernel
theorem nn_is_house_dict : ("dict" : Str) ≠ "__name__" := by decide +kernel
theorem db_is_house_dict : (("dict" : Str) == ("__debug__" : Str)) = false := by decide +kernel
theorem vo_is_house_recipes : VarOk (defScope s_is_house) "recipes" := by decide +kernel
theorem vo_is_house_given : VarOk (defScope s_is_house) "given" := by decide +kernel
theorem lo_is_house_number : Loc (defScope s_is_house) "number" := by decide +kernel
theorem lo_is_house_name : Loc (defScope s_is_house) "name" := by decide +kernel
theorem gl_is_house_is_whole_number : (defScope s_is_house).names.lookup ("is_whole_number" : Str) = some NameKind.globalImplicit := by decide +kernel
theorem vo_is_house_number : VarOk (defScope s_is_house) "number" := by decide +kernel
theorem db_is_house_is_whole_number : (("is_whole_number" : Str) == ("__debug__" : Str)) = false := by decide +kernel
theorem gl_is_house_is_name : (defScope s_is_house).names.lookup ("is_name" : Str) = some NameKind.globalImplicit := by decide +kernel
theorem vo_is_house_name : VarOk (defScope s_is_house) "name" := by decide +kernel
theorem db_is_house_is_name : (("is_name" : Str) == ("__debug__" : Str)) = false := by decide +kernel
theorem lo_is_house_r : Loc (defScope s_is_house) "r" := by decide +kernel
theorem gl_is_house_is_recipe : (defScope s_is_house).names.lookup ("is_recipe" : Str) = some NameKind.globalImplicit := by decide +kernel
theorem vo_is_house_r : VarOk (defScope s_is_house) "r" := by decide +kernel
theorem db_is_house_is_recipe : (("is_recipe" : Str) == ("__debug__" : Str)) = false := by decide +kernel
theorem ok_is_house {f g1 g2 g3 : Addr} {fd gd1 gd2 gd3 : FuncData} (T_is_house : FnT K mg "is_house" s_is_house ["thing"] f fd)
    (T_is_whole_number : FnT K mg "is_whole_number" s_is_whole_number ["thing"] g1 gd1) (G_is_whole_number : FnOk P w K mg base CX0 1 g1 gd1 ["thing"] (spWhole K))
    (T_is_name : FnT K mg "is_name" s_is_name ["thing"] g2 gd2) (G_is_name : FnOk P w K mg base CX0 1 g2 gd2 ["thing"] (spIsName K))
    (T_is_recipe : FnT K mg "is_recipe" s_is_recipe ["thing"] g3 gd3) (G_is_recipe : FnOk P w K mg base CX0 4 g3 gd3 ["thing"] (spIsRec K))
    (T : Blt mg) (kd : Kinds K) : FnOk P w K mg base CX0 5 f fd ["thing"] spHouse := by
  refine T_is_house.F.okQ sc_is_house (fun vs H Q E h => ?_) (fun cdv A outer s H vs Q E hr h => ?_)
  · obtain ⟨h, g, c, kg, kr, rfl, _⟩ := h
    rfl
  obtain ⟨h, g, c, kg, kr, rfl, eh, hg, hc, gc, hkg, hkr, q⟩ := h
  refine ⟨_, (qss_cons (qs_if (qt_w (qw_or (qt_not (qt_val (qe_callB qc_isi gl_is_house_isinstance T.b_isinstance bt_isinstance (qa_N (qe_var 0 vo_is_house_thing) (qa_N (qe_bltn (v := .ty "tuple") gl_is_house_tuple T.b_tuple bt_tuple rfl nn_is_house_tuple db_is_house_tuple) qa_nil)) nn_is_house_isinstance db_is_house_isinstance))) (qw_or1 (qt_cmp qop_ne (qe_callB qc_len_seq gl_is_house_len T.b_len bt_len (qa_N (qe_var 0 vo_is_house_thing) qa_nil) nn_is_house_len db_is_house_len) qe_int (nomarkQ _))))) (qss_one (qs_ret qe_bl)) qss_nil)
    (qss_cons (qs_set (i := 1) sc_is_house.nd rfl lo_is_house_given (qe_ix qix_tup (qe_var 0 vo_is_house_thing) qe_int))
    (qss_cons (qs_set (i := 2) sc_is_house.nd rfl lo_is_house_recipes (qe_ix qix_tup (qe_var 0 vo_is_house_thing) qe_int))
    (qss_cons (qs_if (qt_w (qw_or (qt_not (qt_val (qe_callB qc_isiD gl_is_house_isinstance T.b_isinstance bt_isinstance (qa_N (qe_var 1 vo_is_house_given) (qa_N (qe_bltn (v := .ty "dict") gl_is_house_dict T.b_dict bt_dict rfl nn_is_house_dict db_is_house_dict) qa_nil)) nn_is_house_isinstance db_is_house_isinstance))) (qw_or1 (qt_not (qt_val (qe_callB qc_isiD gl_is_house_isinstance T.b_isinstance bt_isinstance (qa_N (qe_var 2 vo_is_house_recipes) (qa_N (qe_bltn (v := .ty "dict") gl_is_house_dict T.b_dict bt_dict rfl nn_is_house_dict db_is_house_dict) qa_nil)) nn_is_house_isinstance db_is_house_isinstance)))))) (qss_one (qs_ret qe_bl)) qss_nil)
    (qss_cons (qs_for PassesOwn.never rfl (qi_items (qe_var 1 vo_is_house_given)) (qg_tup rfl (qgs_cons (qg_name (i := 3) sc_is_house.nd rfl lo_is_house_name) (qgs_cons (qg_name (i := 4) sc_is_house.nd rfl lo_is_house_number) qgs_nil))) (qss_one (qs_if (qt_w (qw_or (qt_not (qt_val (qe_call (G_is_name.mono (by omega)) hr gl_is_house_is_name T_is_name.m T_is_name.F.kp T_is_name.b .nil pass0 (qa_N (qe_var 3 vo_is_house_name) qa_nil) db_is_house_is_name))) (qw_or1 (qt_not (qt_val (qe_call (G_is_whole_number.mono (by omega)) hr gl_is_house_is_whole_number T_is_whole_number.m T_is_whole_number.F.kp T_is_whole_number.b .nil pass0 (qa_N (qe_var 4 vo_is_house_number) qa_nil) db_is_house_is_whole_number)))))) (qss_one (qs_ret qe_bl)) qss_nil)))
    (qss_cons (qs_for PassesOwn.never rfl (qi_items (qe_var 2 vo_is_house_recipes)) (qg_tup rfl (qgs_cons (qg_name (i := 3) sc_is_house.nd rfl lo_is_house_name) (qgs_cons (qg_name (i := 5) sc_is_house.nd rfl lo_is_house_r) qgs_nil))) (qss_one (qs_if (qt_w (qw_or (qt_not (qt_val (qe_call (G_is_name.mono (by omega)) hr gl_is_house_is_name T_is_name.m T_is_name.F.kp T_is_name.b .nil pass0 (qa_N (qe_var 3 vo_is_house_name) qa_nil) db_is_house_is_name))) (qw_or (qt_din (hu_of hr) (qe_var 3 vo_is_house_name) (qe_var 1 vo_is_house_given)) (qw_or1 (qt_not (qt_val (qe_call (G_is_recipe.mono (by omega)) hr gl_is_house_is_recipe T_is_recipe.m T_is_recipe.F.kp T_is_recipe.b .nil pass0 (qa_N (qe_var 5 vo_is_house_r) qa_nil) db_is_house_is_recipe))))))) (qss_one (qs_ret qe_bl)) qss_nil)))
    (qss_one (qs_ret qe_bl)))))))), ?_⟩
  have tyh : TyOf K H (.ref h) (.type "tuple") := .tup eh
  walk_at "vs"
  intro og
  have hcn : c ∉ [g] := fun z => gc (List.mem_singleton.mp z).symm
  have B0 : But [g] H (upd H g (.frz og (.dK kg))) := But.set _ (by simp)
  refine for_items (fun i σ Hc => Wr (∃ (t3 t4 t5 : Option V), σ = [some (.ref h), some (.ref g), some (.ref c), t3, t4, t5] ∧ But [g] H Hc ∧ Hc g = some (.frz og (.dK kg)))) ?_ ?_ ?_ ?_
  · exact .mk ⟨_, _, _, rfl, B0, upd_same⟩
  · intro i σ Hc _ hP
    obtain ⟨_, _, _, _, _, e⟩ := hP.h
    exact e
  · intro i k v T' σ Hc hkv hT hP
    obtain ⟨t3, t4, t5, rfl, hb, eg⟩ := hP.h
    clear hP
    obtain ⟨x, n, e, gx⟩ := hkg _ (List.mem_of_getElem? hkv)
    obtain ⟨rfl, rfl⟩ := Prod.mk.inj e
    show gTup _ _ _ (.ref T') _ (upd Hc T' (.tup [V.str x, V.int n])) _
    have s1 := same_new (.tup [V.str x, V.int n]) hT
    have eT : upd Hc T' (.tup [V.str x, V.int n]) T' = some (.tup [V.str x, V.int n]) := upd_same
    have hb1 : But [g] H (upd Hc T' (.tup [V.str x, V.int n])) := hb.trans (But.of_same s1)
    have eg1 := s1 _ _ eg
    generalize upd Hc T' (.tup [V.str x, V.int n]) = H1 at *
    have hx : IsTh K H1 (.str x) (.str x) := .str x
    have hx2 : ShortT (.str x) := .str (Nat.le_trans gx.2.1 (by rw [sizeLine_eq]; omega))
    have hn : nameT (.str x) = true := decide_eq_true gx
    walk_at "vs"
    intro H2 s2
    rw [hn]
    have hi : IsTh K H2 (.int n) (.int n) := .int n
    walk_at "vs"
    exact .mk ⟨_, _, _, rfl, hb1.trans (But.of_same s2), s2 _ _ eg1⟩
  · intro σ Hc hP
    obtain ⟨t3, t4, t5, rfl, hb, eg⟩ := hP.h
    clear hP
    have hc1 : Rd Hc c (.dK kr) := rd_but hc hb hcn
    walk_at "vs"
    intro oc
    have B1 : But [g, c] H (upd Hc c (.frz oc (.dK kr))) := (hb.mono (by simp)).trans (But.set _ (by simp))
    have eg1 : upd Hc c (.frz oc (.dK kr)) g = some (.frz og (.dK kg)) := by rw [upd_ne gc]; exact eg
    refine for_items (fun i σ Hc => Wr (∃ (t3 t4 t5 : Option V), σ = [some (.ref h), some (.ref g), some (.ref c), t3, t4, t5] ∧ But [g, c] H Hc ∧ Hc g = some (.frz og (.dK kg)) ∧ Hc c = some (.frz oc (.dK kr)) ∧ (kr.take i).all (fun p => !(kg.any fun q => decide (q.1 = p.1))) = true)) ?_ ?_ ?_ ?_
    · exact .mk ⟨_, _, _, rfl, B1, eg1, upd_same, rfl⟩
    · intro i σ Hd _ hP
      obtain ⟨_, _, _, _, _, _, e, _⟩ := hP.h
      exact e
    · intro i k v T' σ Hd hkv hT hP
      obtain ⟨t3, t4, t5, rfl, hb, eg, ec, hall⟩ := hP.h
      clear hP
      obtain ⟨x, a, r, e, gx, hR, gr, hnd, hdp⟩ := hkr _ (List.mem_of_getElem? hkv)
      obtain ⟨rfl, rfl⟩ := Prod.mk.inj e
      show gTup _ _ _ (.ref T') _ (upd Hd T' (.tup [V.str x, V.ref a])) _
      have s1 := same_new (.tup [V.str x, V.ref a]) hT
      have eT : upd Hd T' (.tup [V.str x, V.ref a]) T' = some (.tup [V.str x, V.ref a]) := upd_same
      have hb1 : But [g, c] H (upd Hd T' (.tup [V.str x, V.ref a])) := hb.trans (But.of_same s1)
      have eg1 := s1 _ _ eg
      have ec1 := s1 _ _ ec
      generalize upd Hd T' (.tup [V.str x, V.ref a]) = H1 at *
      have hx : IsTh K H1 (.str x) (.str x) := .str x
      have hx2 : ShortT (.str x) := .str (Nat.le_trans gx.2.1 (by rw [sizeLine_eq]; omega))
      have hn : nameT (.str x) = true := decide_eq_true gx
      walk_at "vs"
      intro H2 s2
      rw [hn]
      have eg2 := s2 _ _ eg1
      have ec2 := s2 _ _ ec1
      have hb2 := hb1.trans (But.of_same (S := [g, c]) s2)
      have hdg : DGet H2 g (.str x) (valV kg (.inr x)) := .inl ⟨kg, .inr x, .inr ⟨og, eg2⟩, rfl, rfl⟩
      clear hx hx2
      walk_at "vs"
      rw [val_any]
      refine ite2 (fun c1 => ?_) (fun c1 => ?_)
      · walk_at "vs"
        have hf : (kr.all fun p => !(kg.any fun q => decide (q.1 = p.1))) = false := by
          rw [Bool.eq_false_iff]
          intro z
          have := List.all_eq_true.mp z _ (List.mem_of_getElem? hkv)
          rw [c1] at this
          exact Bool.noConfusion this
        rw [hf] at q
        exact q H2 hb2 (.inr ⟨og, eg2⟩) (.inr ⟨oc, ec2⟩)
      · have hfr : a ∉ [g, c] := fun z => by
          obtain ⟨ws, ew, _⟩ : ∃ ws, H a = some (.tup ws) ∧ True := by cases hR with
            | num e => exact ⟨_, e, trivial⟩
            | rd e => exact ⟨_, e, trivial⟩
            | bin e _ _ => exact ⟨_, e, trivial⟩
            | pick e _ _ _ => exact ⟨_, e, trivial⟩
            | cho e _ _ => exact ⟨_, e, trivial⟩
          rcases List.mem_cons.mp z with y | y
          · subst y; rcases hg with y | ⟨_, y⟩ <;> (rw [ew] at y; cases y)
          · rw [List.mem_singleton.mp y] at ew; rcases hc with y | ⟨_, y⟩ <;> (rw [ew] at y; cases y)
        have tups : Tups H H2 := fun b xs e => hb2 b _ (fun z => by
          rcases List.mem_cons.mp z with y | y
          · subst y; rcases hg with y | ⟨_, y⟩ <;> (rw [e] at y; cases y)
          · rw [List.mem_singleton.mp y] at e; rcases hc with y | ⟨_, y⟩ <;> (rw [e] at y; cases y)) e
        have ht := (hR.tups tups).isTh (K := K)
        have hsh := (r.asc gr).short
        walk_at "vs"
        intro H3 s3
        have hsz : decide (szN 8 r.toTh ≤ 100) = true := decide_eq_true (by
          have e := szR_nodes 8 r gr hdp
          have e' : szR 8 r = szN 8 r.toTh := rfl
          omega)
        rw [hsz]
        walk_at "vs"
        refine .mk ⟨_, _, _, rfl, hb2.trans (But.of_same s3), s3 _ _ eg2, s3 _ _ ec2, ?_⟩
        rw [List.take_succ, hkv, List.all_append, hall]
        have : (kg.any fun q => decide (q.1 = Sum.inr x)) = false := Bool.eq_false_iff.mpr c1
        simp [this]
    · intro σ Hd hP
      obtain ⟨t3, t4, t5, rfl, hb, eg, ec, hall⟩ := hP.h
      rw [List.take_length] at hall
      rw [hall] at q
      exact q Hd hb (.inr ⟨og, eg⟩) (.inr ⟨oc, ec⟩)
end

section
variable {P : Program} {w : World} {K : PySem.W.Frag} {mg : Str → Option Value} {base : Heap}
/-- a row of names, as a list or as a tuple -/
noncomputable def RowN (H : Hp) (v : V) (ns : List Str) : Prop := ∃ a, v = .ref a ∧ (H a = some (.lst (ns.map V.str)) ∨ H a = some (.tup (ns.map V.str)))
theorem RowN.same {H H' : Hp} {v : V} {ns : List Str} (h : RowN H v ns) (s : Same H H') : RowN H' v ns := by
  obtain ⟨a, e, z⟩ := h
  exact ⟨a, e, z.elim (fun z => .inl (s _ _ z)) fun z => .inr (s _ _ z)⟩
inductive Rows (H : Hp) : List V → List (List Str) → Prop where
  | nil : Rows H [] []
  | cons {v : V} {ns : List Str} {vs : List V} {nss : List (List Str)} (h : RowN H v ns) (t : Rows H vs nss) : Rows H (v :: vs) (ns :: nss)
theorem Rows.at {H : Hp} : ∀ {vs : List V} {nss : List (List Str)}, Rows H vs nss → ∀ {i : Nat} {v : V}, vs[i]? = some v → ∃ ns, nss[i]? = some ns ∧ RowN H v ns
  | _, _, .nil, i, v, h => by simp at h
  | _, _, .cons (ns := ns) h t, 0, v, e => ⟨ns, rfl, by rw [show v = _ from (by simpa using e.symm)]; exact h⟩
  | _, _, .cons h t, i + 1, v, e => by
    obtain ⟨ns, e1, e2⟩ := Rows.at t (i := i) (v := v) (by simpa using e)
    exact ⟨ns, by simpa using e1, e2⟩
theorem Rows.len {H : Hp} {vs : List V} {nss : List (List Str)} (h : Rows H vs nss) : vs.length = nss.length := by
  induction h with
  | nil => rfl
  | cons _ _ ih => simp [ih]
noncomputable def spTog : Sp := fun vs H Q _ => ∃ (a : Addr) (us : List V) (nss : List (List Str)), vs = [.ref a] ∧ H a = some (.lst us) ∧ Rows H us nss ∧ nss.flatten.length ≤ 2000 ∧
  ∀ p ds H', Same H H' → H p = none → H' p = some (.lst (ds.map V.str)) → IsDue nss.flatten ds → Q (.ref p) H'
/-- texts as keys -/
theorem put_keys {kvs : List (Key × V)} {acc : List Str} {x : Str} {v : V} (h : kvs.map (·.1) = acc.map Sum.inr) : (putK kvs (.inr x) v).map (·.1) = (if x ∈ acc then acc else acc ++ [x]).map Sum.inr := by
  have hm : (kvs.any fun kv => decide (kv.1 = Sum.inr x)) = decide (x ∈ acc) := by
    rw [Bool.eq_iff_iff, List.any_eq_true, decide_eq_true_eq]
    constructor
    · rintro ⟨p, hp, e⟩
      have e' : p.1 = Sum.inr x := of_decide_eq_true e
      have : p.1 ∈ kvs.map (·.1) := List.mem_map.mpr ⟨p, hp, rfl⟩
      rw [h, e'] at this
      obtain ⟨y, hy, ey⟩ := List.mem_map.mp this
      exact Sum.inr.inj ey ▸ hy
    · intro hx
      have : (Sum.inr x : Key) ∈ kvs.map (·.1) := by rw [h]; exact List.mem_map.mpr ⟨x, hx, rfl⟩
      obtain ⟨p, hp, e⟩ := List.mem_map.mp this
      exact ⟨p, hp, decide_eq_true e⟩
  unfold putK
  rw [hm]
  by_cases hx : x ∈ acc
  · rw [if_pos (decide_eq_true hx), if_pos hx, ← h, List.map_map]
    apply List.map_congr_left
    intro p _
    show (if p.1 = Sum.inr x then (p.1, v) else p).1 = p.1
    split <;> rfl
  · rw [if_neg (by simpa using hx), if_neg hx, List.map_append, h, List.map_append]; rfl
theorem metS_app : ∀ (a b acc : List Str), metS acc (a ++ b) = metS (metS acc a) b
  | [], b, acc => rfl
  | x :: a, b, acc => by
    show (if x ∈ acc then metS acc (a ++ b) else metS (acc ++ [x]) (a ++ b)) = metS (if x ∈ acc then metS acc a else metS (acc ++ [x]) a) b
    split
    · exact metS_app a b acc
    · exact metS_app a b _
noncomputable abbrev s_law_together : Stmt := top 21
theorem sc_law_together : FnScope ["rows", "found", "row", "name"] ["rows"] (defScope s_law_together) := ⟨rfl, rfl, rfl, by decide +kernel, rfl, by decide +kernel, by decide +kernel⟩
theorem lo_law_together_found : Loc (defScope s_law_together) "found" := by decide +kernel
theorem vo_law_together_rows : VarOk (defScope s_law_together) "rows" := by decide +kernel
theorem lo_law_together_row : Loc (defScope s_law_together) "row" := by decide +kernel
theorem vo_law_together_row : VarOk (defScope s_law_together) "row" := by decide +kernel
theorem lo_law_together_name : Loc (defScope s_law_together) "name" := by decide +kernel
theorem vo_law_together_found : VarOk (defScope s_law_together) "found" := by decide +kernel
theorem vo_law_together_name : VarOk (defScope s_law_together) "name" := by decide +kernel
theorem gl_law_together_sorted : (defScope s_law_together).names.lookup ("sorted" : Str) = some NameKind.globalImplicit := by decide +kernel
theorem nn_law_together_sorted : ("sorted" : Str) ≠ "__name__" := by decide +kernel
theorem db_law_together_sorted : (("sorted" : Str) == ("__debug__" : Str)) = false := by decide +kernel
theorem ok_law_together {f : Addr} {fd : FuncData} (T_law_together : FnT K mg "_law_together" s_law_together ["rows"] f fd) (T : Blt mg) : FnOk P w K mg base CX0 1 f fd ["rows"] spTog := by
  refine T_law_together.F.okQ sc_law_together (fun vs H Q E h => ?_) (fun cdv A outer s H vs Q E hr h => ?_)
  · obtain ⟨a, us, nss, rfl, _⟩ := h
    rfl
  obtain ⟨a, us, nss, rfl, ea, hrows, hl, q⟩ := h
  refine ⟨_, (qss_cons (qs_set (i := 1) sc_law_together.nd rfl lo_law_together_found qe_dnewK)
    (qss_cons (qs_for PassesOwn.never rfl (qi_list (qe_var 0 vo_law_together_rows)) (qg_name (i := 2) sc_law_together.nd rfl lo_law_together_row) (qss_one (qs_for PassesOwn.never rfl (qi_seq (qe_var 2 vo_law_together_row)) (qg_name (i := 3) sc_law_together.nd rfl lo_law_together_name) (qss_one (qs_dput (hu_of hr) (qe_var 1 vo_law_together_found) (qe_var 3 vo_law_together_name) qe_bl)))))
    (qss_one (qs_ret (qe_callB (qc_sortedD rfl) gl_law_together_sorted T.b_sorted bt_sorted (qa_N (qe_var 1 vo_law_together_found) qa_nil) nn_law_together_sorted db_law_together_sorted))))), ?_⟩
  walk_at "vs"
  intro dp hdp
  walk_at "vs"
  refine for_list (xs := us) (fun i σ Hc => Wr (∃ (t2 t3 : Option V) (kvs : List (Key × V)), σ = [some (.ref a), some (.ref dp), t2, t3] ∧ Same H Hc ∧ Hc dp = some (.dK kvs) ∧ kvs.map (·.1) = (metS [] (nss.take i).flatten).map Sum.inr)) ?_ ?_ ?_ ?_
  · exact .mk ⟨_, _, [], rfl, same_new _ hdp, upd_same, rfl⟩
  · intro i σ Hc _ hP
    obtain ⟨_, _, _, _, sc, _⟩ := hP.h
    exact SqL.of (sc _ _ ea)
  · intro i v σ Hc hv hP
    obtain ⟨t2, t3, kvs, rfl, sc, ed, hk⟩ := hP.h
    clear hP
    obtain ⟨ns, hns, b, rfl, hb⟩ := hrows.at hv
    walk_at "vs"
    rcases hb with hb | hb
    · refine .inl ⟨⟨_, SqL.of (sc _ _ hb)⟩, ?_⟩
      · show ∃ W, _
        refine for_list (xs := ns.map V.str) (fun j σ Hd => Wr (∃ (t3 : Option V) (kvs : List (Key × V)), σ = [some (.ref a), some (.ref dp), some (.ref b), t3] ∧ Same H Hd ∧ Hd dp = some (.dK kvs) ∧ kvs.map (·.1) = (metS (metS [] (nss.take i).flatten) (ns.take j)).map Sum.inr)) ?_ ?_ ?_ ?_
        · exact .mk ⟨_, kvs, rfl, sc, ed, hk⟩
        · intro j σ Hd _ hQ
          obtain ⟨_, _, _, sd, _⟩ := hQ.h
          exact SqL.of (sd _ _ hb)
        · intro j v' σ Hd hv' hQ
          obtain ⟨t3', kvs', rfl, sd, ed', hk'⟩ := hQ.h
          clear hQ
          obtain ⟨x, hx, rfl⟩ : ∃ x, ns[j]? = some x ∧ v' = .str x := by
            rw [List.getElem?_map] at hv'
            cases hj : ns[j]? with
            | none => rw [hj] at hv'; cases hv'
            | some x => rw [hj] at hv'; exact ⟨x, rfl, by simpa using hv'.symm⟩
          have hz : kvs'.length < sizeLine := by
            have h1 := congrArg List.length hk'
            rw [List.length_map, List.length_map] at h1
            have h2 := metS_le (ns.take j) (metS [] (nss.take i).flatten)
            have h3 := metS_le (nss.take i).flatten []
            have h4 : (ns.take j).length ≤ ns.length := by rw [List.length_take]; omega
            have h5 : (nss.take i).flatten.length + ns.length ≤ nss.flatten.length := by
              conv => rhs; rw [← List.take_append_drop i nss, List.flatten_append, List.length_append]
              have hi := (List.getElem?_eq_some_iff.mp hns).1
              rw [List.drop_eq_getElem_cons hi, (List.getElem?_eq_some_iff.mp hns).2, List.flatten_cons, List.length_append]
              omega
            rw [sizeLine_eq]
            simp only [List.length_nil] at h3
            omega
          have hput : DPut Hd dp (.str x) (.bl true) (upd Hd dp (.dK (putK kvs' (.inr x) (.bl true)))) := .inl ⟨kvs', .inr x, ed', rfl, hz, rfl⟩
          walk_at "vs"
          refine .mk ⟨_, _, rfl, same_updN _ hdp sd, upd_same, ?_⟩
          rw [put_keys hk', List.take_succ, hx, metS_app]
          rfl
        · intro σ Hd hQ
          obtain ⟨t3', kvs', rfl, sd, ed', hk'⟩ := hQ.h
          clear hQ
          refine .mk ⟨_, _, kvs', rfl, sd, ed', ?_⟩
          rw [hk', List.length_map, List.take_length, List.take_succ, hns, List.flatten_append, metS_app]
          simp
    · refine .inr ⟨⟨_, SqT.of (sc _ _ hb)⟩, ?_⟩
      · show ∃ W, _
        refine for_tup (xs := ns.map V.str) (fun j σ Hd => Wr (∃ (t3 : Option V) (kvs : List (Key × V)), σ = [some (.ref a), some (.ref dp), some (.ref b), t3] ∧ Same H Hd ∧ Hd dp = some (.dK kvs) ∧ kvs.map (·.1) = (metS (metS [] (nss.take i).flatten) (ns.take j)).map Sum.inr)) ?_ ?_ ?_ ?_
        · exact .mk ⟨_, kvs, rfl, sc, ed, hk⟩
        · intro j σ Hd _ hQ
          obtain ⟨_, _, _, sd, _⟩ := hQ.h
          exact SqT.of (sd _ _ hb)
        · intro j v' σ Hd hv' hQ
          obtain ⟨t3', kvs', rfl, sd, ed', hk'⟩ := hQ.h
          clear hQ
          obtain ⟨x, hx, rfl⟩ : ∃ x, ns[j]? = some x ∧ v' = .str x := by
            rw [List.getElem?_map] at hv'
            cases hj : ns[j]? with
            | none => rw [hj] at hv'; cases hv'
            | some x => rw [hj] at hv'; exact ⟨x, rfl, by simpa using hv'.symm⟩
          have hz : kvs'.length < sizeLine := by
            have h1 := congrArg List.length hk'
            rw [List.length_map, List.length_map] at h1
            have h2 := metS_le (ns.take j) (metS [] (nss.take i).flatten)
            have h3 := metS_le (nss.take i).flatten []
            have h4 : (ns.take j).length ≤ ns.length := by rw [List.length_take]; omega
            have h5 : (nss.take i).flatten.length + ns.length ≤ nss.flatten.length := by
              conv => rhs; rw [← List.take_append_drop i nss, List.flatten_append, List.length_append]
              have hi := (List.getElem?_eq_some_iff.mp hns).1
              rw [List.drop_eq_getElem_cons hi, (List.getElem?_eq_some_iff.mp hns).2, List.flatten_cons, List.length_append]
              omega
            rw [sizeLine_eq]
            simp only [List.length_nil] at h3
            omega
          have hput : DPut Hd dp (.str x) (.bl true) (upd Hd dp (.dK (putK kvs' (.inr x) (.bl true)))) := .inl ⟨kvs', .inr x, ed', rfl, hz, rfl⟩
          walk_at "vs"
          refine .mk ⟨_, _, rfl, same_updN _ hdp sd, upd_same, ?_⟩
          rw [put_keys hk', List.take_succ, hx, metS_app]
          rfl
        · intro σ Hd hQ
          obtain ⟨t3', kvs', rfl, sd, ed', hk'⟩ := hQ.h
          clear hQ
          refine .mk ⟨_, _, kvs', rfl, sd, ed', ?_⟩
          rw [hk', List.length_map, List.take_length, List.take_succ, hns, List.flatten_append, metS_app]
          simp
  · intro σ Hc hP
    obtain ⟨t2, t3, kvs, rfl, sc, ed, hk⟩ := hP.h
    clear hP
    rw [hrows.len, List.take_length] at hk
    walk_at "vs"
    intro p ds hp h1 h2
    exact q p ds _ (sc.trans (same_new _ hp)) (sc.free hp) upd_same (due_set h1 h2)
end

section
variable {P : Program} {w : World} {K : PySem.W.Frag} {mg : Str → Option Value} {base : Heap}
noncomputable def swp (old new x : Str) : Str := if x = old then new else x
noncomputable def exR (old new : Str) : R → R
  | .num n => .num n
  | .rd x => .rd (swp old new x)
  | .bin op a b => .bin op (exR old new a) (exR old new b)
  | .pick a b c => .pick (exR old new a) (exR old new b) (exR old new c)
  | .cho a ns => .cho (exR old new a) (ns.map (swp old new))
theorem ex_names (old new : Str) : ∀ r : R, (exR old new r).names = r.names.map (swp old new)
  | .num n => rfl
  | .rd x => rfl
  | .bin op a b => by simp [exR, R.names, ex_names old new a, ex_names old new b]
  | .pick a b c => by simp [exR, R.names, ex_names old new a, ex_names old new b, ex_names old new c]
  | .cho a ns => by simp [exR, R.names, ex_names old new a]
theorem ex_nodes (old new : Str) : ∀ r : R, (exR old new r).nodes = r.nodes
  | .num n => rfl
  | .rd x => rfl
  | .bin op a b => by simp [exR, R.nodes, ex_nodes old new a, ex_nodes old new b]
  | .pick a b c => by simp [exR, R.nodes, ex_nodes old new a, ex_nodes old new b, ex_nodes old new c]
  | .cho a ns => by simp [exR, R.nodes, ex_nodes old new a]
theorem swp_good {old new x : Str} (h : GName new) (hx : GName x) : GName (swp old new x) := by unfold swp; split <;> assumption
theorem ex_good {old new : Str} (h : GName new) : ∀ {r : R}, r.Good → (exR old new r).Good
  | .num n, g => g
  | .rd x, g => swp_good h g
  | .bin op a b, g => ⟨ex_good h g.1, ex_good h g.2⟩
  | .pick a b c, g => ⟨ex_good h g.1, ex_good h g.2.1, ex_good h g.2.2⟩
  | .cho a ns, g => ⟨ex_good h g.1, by simpa using g.2.1, by simpa using g.2.2.1, fun x hx => by
    obtain ⟨y, hy, rfl⟩ := List.mem_map.mp hx
    exact swp_good h (g.2.2.2 y hy)⟩
noncomputable def spEx (m : Nat) : Sp := fun vs H Q _ => ∃ a r old new, vs = [.ref a, .str old, .str new] ∧ IsR H a r ∧ r.Good ∧ r.depth ≤ m ∧ m ≤ 8 ∧ GName old ∧ GName new ∧ ∀ a' H', Same H H' → IsR H' a' (exR old new r) → Q (.ref a') H'
noncomputable abbrev s_law_exchanged : Stmt := top 22
theorem sc_law_exchanged : FnScope ["r", "old", "new", "names"] ["r", "old", "new"] (defScope s_law_exchanged) := ⟨rfl, rfl, rfl, by decide +kernel, rfl, by decide +kernel, by decide +kernel⟩
theorem vo_law_exchanged_r : VarOk (defScope s_law_exchanged) "r" := by decide +kernel
theorem vo_law_exchanged_old : VarOk (defScope s_law_exchanged) "old" := by decide +kernel
theorem vo_law_exchanged_new : VarOk (defScope s_law_exchanged) "new" := by decide +kernel
theorem lo_law_exchanged_names : Loc (defScope s_law_exchanged) "names" := by decide +kernel
theorem gl_law_exchanged_tuple : (defScope s_law_exchanged).names.lookup ("tuple" : Str) = some NameKind.globalImplicit := by decide +kernel
theorem nn_law_exchanged_int : ("int" : Str) ≠ "__name__" := by decide +kernel
theorem db_law_exchanged_int : (("int" : Str) == ("__debug__" : Str)) = false := by decide +kernel
theorem nn_law_exchanged_tuple : ("tuple" : Str) ≠ "__name__" := by decide +kernel
theorem db_law_exchanged_tuple : (("tuple" : Str) == ("__debug__" : Str)) = false := by decide +kernel
theorem vo_law_exchanged_names : VarOk (defScope s_law_exchanged) "names" := by decide +kernel
theorem gl_law_exchanged__law_exchanged : (defScope s_law_exchanged).names.lookup ("_law_exchanged" : Str) = some NameKind.globalImplicit := by decide +kernel
theorem db_law_exchanged__law_exchanged : (("_law_exchanged" : Str) == ("__debug__" : Str)) = false := by decide +kernel
theorem step_law_exchanged {m : Nat} {f : Addr} {fd : FuncData} (T_law_exchanged : FnT K mg "_law_exchanged" s_law_exchanged ["r", "old", "new"] f fd)
    (G_law_exchanged : FnOk P w K mg base CX0 (m + 1) f fd ["r", "old", "new"] (spEx m)) (T : Blt mg) : FnOk P w K mg base CX0 (m + 2) f fd ["r", "old", "new"] (spEx (m + 1)) := by
  refine T_law_exchanged.F.okQ sc_law_exchanged (fun vs H Q E h => ?_) (fun cdv A outer s H vs Q E hr h => ?_)
  · obtain ⟨a, r, old, new, rfl, _⟩ := h
    rfl
  obtain ⟨a, r, old, new, rfl, hR, hg, hd, h8, go, gn, q⟩ := h
  refine ⟨_, (qss_cons (qs_if (qt_cmp (qop_eqD hr.units) (qe_var 0 vo_law_exchanged_r) (qe_tup (qa_C qe_str (qa_N (qe_var 1 vo_law_exchanged_old) qa_nil))) (nomarkQ _)) (qss_one (qs_ret (qe_tup (qa_C qe_str (qa_N (qe_var 2 vo_law_exchanged_new) qa_nil))))) qss_nil)
    (qss_cons (qs_if (qt_cmp qop_eq (qe_ix qix_tup (qe_var 0 vo_law_exchanged_r) qe_int) qe_str (nomarkQ _)) (qss_cons (qs_set (i := 3) sc_law_exchanged.nd rfl lo_law_exchanged_names (qe_callTy qc_tuple_of gl_law_exchanged_tuple T.b_tuple bt_tuple (qa_M (qe_comp rfl (n := 1) (fr := [2, 1]) (N := ["name", "new", "old"]) (cs_mk (scX := defScope s_law_exchanged) (NX := ["r", "old", "new", "names"]) rfl rfl (by decide +kernel)) (qi_tup (qe_ix qix_tup (qe_var 0 vo_law_exchanged_r) qe_int)) (fun _ _ _ _ _ => (qgx (i := 0) (show List.Nodup (α := Str) ["name", "new", "old"] by decide) (locC (by decide +kernel)))) (fun _ _ _ _ _ => qi_nil) (fun _ _ _ _ _ => (qe_ix (qix_listK (K := K) rfl) (qe_lst (qa_N (qe_var 0 (VarC.ok (by decide +kernel))) (qa_N (qe_var 1 (VarC.ok (by decide +kernel))) qa_nil))) (qe_callTy qc_intB (glC (by decide +kernel)) T.b_int bt_int (qa_K (qe_cmp qop_eq (qe_var 0 (VarC.ok (by decide +kernel))) (qe_var 2 (VarC.ok (by decide +kernel))) (nomarkQ _)) qa_nil) nn_law_exchanged_int db_law_exchanged_int)))) qa_nil) nn_law_exchanged_tuple db_law_exchanged_tuple))
    (qss_one (qs_ret (qe_tup (qa_C qe_str (qa_F (qe_call (G_law_exchanged.mono (by omega)) hr gl_law_exchanged__law_exchanged T_law_exchanged.m T_law_exchanged.F.kp T_law_exchanged.b .nil pass0 (qa_S (qe_ix qix_tup (qe_var 0 vo_law_exchanged_r) qe_int) (qa_N (qe_var 1 vo_law_exchanged_old) (qa_N (qe_var 2 vo_law_exchanged_new) qa_nil))) db_law_exchanged__law_exchanged) (qa_N (qe_var 3 vo_law_exchanged_names) qa_nil))))))) qss_nil)
    (qss_cons (qs_if (qt_w (qw_or (qt_cmp qop_eq (qe_ix qix_tup (qe_var 0 vo_law_exchanged_r) qe_int) qe_str (nomarkQ _)) (qw_or1 (qt_cmp qop_eq (qe_ix qix_tup (qe_var 0 vo_law_exchanged_r) qe_int) qe_str (nomarkQ _))))) (qss_one (qs_ret (qe_var 0 vo_law_exchanged_r))) qss_nil)
    (qss_one (qs_ret (qe_op qop_catT2 (qe_slice qsl_tup (qe_var 0 vo_law_exchanged_r) qo_none (qo_some qe_int)) (qe_callTy qc_tuple_of gl_law_exchanged_tuple T.b_tuple bt_tuple (qa_M (qe_comp rfl (n := 1) (fr := [1, 2]) (N := ["part", "old", "new"]) (cs_mk (scX := defScope s_law_exchanged) (NX := ["r", "old", "new", "names"]) rfl rfl (by decide +kernel)) (qi_tup (qe_slice qsl_tup (qe_var 0 vo_law_exchanged_r) (qo_some qe_int) qo_none)) (fun _ _ _ _ _ => (qgx (i := 0) (show List.Nodup (α := Str) ["part", "old", "new"] by decide) (locC (by decide +kernel)))) (fun _ _ _ _ _ => qi_nil) (fun _ _ _ _ _ => (qe_call (G_law_exchanged.mono (by omega)) hr (glC (by decide +kernel)) T_law_exchanged.m T_law_exchanged.F.kp T_law_exchanged.b .nil pass0 (qa_N (qe_var 0 (VarC.ok (by decide +kernel))) (qa_N (qe_var 1 (VarC.ok (by decide +kernel))) (qa_N (qe_var 2 (VarC.ok (by decide +kernel))) qa_nil))) db_law_exchanged__law_exchanged))) qa_nil) nn_law_exchanged_tuple db_law_exchanged_tuple))))))), ?_⟩
  walk_at "vs"
  intro p0 hp0
  have s0 := same_new (.tup [V.str "read", V.str old]) hp0
  have hR0 := hR.same s0
  have e0 : upd H p0 (.tup [V.str "read", V.str old]) p0 = some (.tup [V.str "read", V.str old]) := upd_same
  generalize upd H p0 (.tup [V.str "read", V.str old]) = H0 at *
  have dv1 : DatV K H0 (.ref a) r.dat := hR0.dat
  have dv2 : DatV K H0 (.ref p0) (R.rd old).dat := (IsR.rd e0).dat
  have sh1 := R.shaped hg (by omega : r.depth ≤ 8)
  have sh2 : SeqAt.shaped (R.rd old).dat = true := R.shaped (r := .rd old) go (by show 1 ≤ 8; omega)
  walk_at "vs"
  by_cases he : r = .rd old
  · subst he
    refine itB_t (PySem.SeqAt.eqv_refl _ (shaped_lay sh2)) ?_
    clear dv1 dv2
    walk_at "vs"
    intro p1 hp1
    refine q p1 _ (s0.trans (same_new _ hp1)) ?_
    show IsR _ p1 (.rd (swp old new old))
    rw [show swp old new old = new by simp [swp]]
    exact .rd upd_same
  refine itB_f (Bool.eq_false_iff.mpr fun z => he (R.eqv_eq _ _ z)) ?_
  clear dv1 dv2 sh1 sh2
  cases hR0 with
  | num e =>
    walk_at "vs"
    exact q a _ s0 (.num e)
  | @rd _ x e =>
    walk_at "vs"
    refine q a _ s0 ?_
    show IsR _ a (.rd (swp old new x))
    rw [show swp old new x = x by unfold swp; rw [if_neg fun z => he (by rw [z])]]
    exact .rd e
  | @cho _ b c r1 ns e h1 h2 =>
    have d1 : r1.depth ≤ m := by have : r1.depth + 1 ≤ m + 1 := hd; omega
    have h9 : ns.length ≤ 9 := hg.2.2.1
    have g1 := hg.1
    have hm8 : m ≤ 8 := by omega
    walk_at "vs"
    intro Dd hDd
    refine comp_tup (xs := ns.map V.str) (fun i σ' H' => Wr ((∃ t, σ' = t :: [some (.str new), some (.str old)]) ∧ Same H0 H' ∧ H' Dd = some (.lst (((ns.take i).map (swp old new)).map V.str)))) ?_ ?_ ?_ ?_
    · exact .mk ⟨⟨none, rfl⟩, same_new _ hDd, upd_same⟩
    · intro i σ' H' _ hP
      exact SqT.of (hP.h.2.1 _ _ h2)
    · intro i x σ' H' hx hP
      obtain ⟨⟨t, rfl⟩, sc, ed⟩ := hP.h
      clear hP
      obtain ⟨y, hy, rfl⟩ : ∃ y, ns[i]? = some y ∧ x = .str y := by
        rw [List.getElem?_map] at hx
        cases hj : ns[i]? with
        | none => rw [hj] at hx; cases hx
        | some y => rw [hj] at hx; exact ⟨y, rfl, by simpa using hx.symm⟩
      have hat : atI [V.str y, V.str new] (if decide (V.str y = V.str old) = true then 1 else 0) = some (.str (swp old new y)) := by
        by_cases z : y = old
        · subst z; simp [swp]; rfl
        · rw [show decide (V.str y = V.str old) = false from by simpa using z]
          unfold swp; rw [if_neg z]; rfl
      have hz : (((ns.take i).map (swp old new)).map V.str).length < sizeLine := by
        rw [List.length_map, List.length_map, List.length_take, sizeLine_eq]; omega
      walk_at "vs"
      intro p1 hp1
      have s1 := same_new (.lst [V.str y, V.str new]) hp1
      have ed1 := s1 _ _ ed
      walk_at "vs"
      refine .mk ⟨⟨_, rfl⟩, same_updN _ hDd (sc.trans s1), ?_⟩
      rw [upd_same, List.take_succ, hy, List.map_append, List.map_append]
      rfl
    · intro σ' H' hP
      obtain ⟨_, sc, ed⟩ := hP.h
      rw [List.length_map, List.take_length] at ed
      have e1 := sc _ _ e
      have hb1 := h1.same sc
      walk_at "vs"
      intro pt hpt
      have s2 := same_new (.tup ((ns.map (swp old new)).map V.str)) hpt
      have e2 := s2 _ _ e1
      have hb2 := hb1.same s2
      have ept : upd H' pt (.tup ((ns.map (swp old new)).map V.str)) pt = some (.tup ((ns.map (swp old new)).map V.str)) := upd_same
      generalize upd H' pt (.tup ((ns.map (swp old new)).map V.str)) = H2 at *
      walk_at "vs"
      intro a' H3 s3 hR3
      have ept3 := s3 _ _ ept
      walk_at "vs"
      intro p4 hp4
      have s4 := same_new (.tup [V.str "choose", V.ref a', V.ref pt]) hp4
      refine q p4 _ (s0.trans (sc.trans (s2.trans (s3.trans s4)))) ?_
      exact .cho upd_same (hR3.same s4) (s4 _ _ ept3)
  | @bin _ b c op r1 r2 e h1 h2 =>
    have hk : IsRq H0 [b, c] [r1, r2] := .cons h1 (.cons h2 .nil)
    have hdk : ∀ r ∈ [r1, r2], r.depth ≤ m := by
      have : max r1.depth r2.depth + 1 ≤ m + 1 := hd
      intro r hr'
      rcases List.mem_cons.mp hr' with rfl | z
      · omega
      · rw [List.mem_singleton.mp z]; omega
    have hgk : ∀ r ∈ [r1, r2], r.Good := by
      intro r hr'
      rcases List.mem_cons.mp hr' with rfl | z
      · exact hg.1
      · rw [List.mem_singleton.mp z]; exact hg.2
    have hm8 : m ≤ 8 := by omega
    cases op with
    | plus =>
      walk_at "vs"
      refine ⟨show ¬ (HT.sIx 3 0 none = 0 ∧ HT.sIx 3 3 (some 1) = 3) from by decide, fun p1 hp1 => ?_⟩
      have s1 := same_new (.tup (cutV [V.str Op.plus.word, V.ref b, V.ref c] none (some 1))) hp1
      have e1 := s1 _ _ e
      have ep1 : upd H0 p1 (.tup (cutV [V.str Op.plus.word, V.ref b, V.ref c] none (some 1))) p1 = some (.tup (cutV [V.str Op.plus.word, V.ref b, V.ref c] none (some 1))) := upd_same
      have hk1 := hk.same s1
      generalize upd H0 p1 (.tup (cutV [V.str Op.plus.word, V.ref b, V.ref c] none (some 1))) = H1 at *
      walk_at "vs"
      intro p2 hp2
      have s2 := same_new (.tup (cutV [V.str Op.plus.word, V.ref b, V.ref c] (some 1) none)) hp2
      have ep2 : upd H1 p2 (.tup (cutV [V.str Op.plus.word, V.ref b, V.ref c] (some 1) none)) p2 = some (.tup ([b, c].map V.ref)) := upd_same
      have hk2 := hk1.same s2
      have ep12 := s2 _ _ ep1
      generalize upd H1 p2 (.tup (cutV [V.str Op.plus.word, V.ref b, V.ref c] (some 1) none)) = H2 at *
      walk_at "vs"
      intro Dd hDd
      refine comp_tup (xs := [b, c].map V.ref) (fun i σ' H' => Wr ((∃ t, σ' = t :: [some (.str old), some (.str new)]) ∧ Same H2 H' ∧ ∃ bs : List Addr, H' Dd = some (.lst (bs.map V.ref)) ∧ bs.length = i ∧ IsRq H' bs (([r1, r2].take i).map (exR old new)))) ?_ ?_ ?_ ?_
      · exact .mk ⟨⟨none, rfl⟩, same_new _ hDd, [], upd_same, rfl, .nil⟩
      · intro i σ' H' _ hP
        exact SqT.of (hP.h.2.1 _ _ ep2)
      · intro i x σ' H' hx hP
        obtain ⟨⟨t, rfl⟩, sc, bs, ed, hbl, hbs⟩ := hP.h
        clear hP
        obtain ⟨b', r', rfl, hr', hb'⟩ := hk2.at hx
        have hb2 := hb'.same sc
        have hdr := hdk r' (List.mem_of_getElem? hr')
        have hgr := hgk r' (List.mem_of_getElem? hr')
        have hil : i < 3 := by
          have := (List.getElem?_eq_some_iff.mp hr').1
          simp at this; omega
        have hz : (bs.map V.ref).length < sizeLine := by rw [List.length_map, hbl, sizeLine_eq]; omega
        walk_at "vs"
        intro a' H4 s4 hR4
        have ed4 := s4 _ _ ed
        walk_at "vs"
        have tz := tups_set (.lst (bs.map V.ref ++ [V.ref a'])) ed4
        refine .mk ⟨⟨_, rfl⟩, same_updN _ hDd (sc.trans s4), bs ++ [a'], ?_, by simp [hbl], ?_⟩
        · rw [upd_same, List.map_append]; rfl
        · rw [List.take_succ, hr', List.map_append]
          exact ((hbs.same s4).tups tz).app (.cons (hR4.tups tz) .nil)
      · intro σ' H' hP
        obtain ⟨_, sc, bs, ed, hbl, hbs⟩ := hP.h
        rw [List.take_of_length_le (by simp)] at hbs
        have ep13 := sc _ _ ep12
        walk_at "vs"
        intro pt hpt
        have s5 := same_new (.tup (bs.map V.ref)) hpt
        have ept : upd H' pt (.tup (bs.map V.ref)) pt = some (.tup (bs.map V.ref)) := upd_same
        have ep14 := s5 _ _ ep13
        have hbs5 := hbs.same s5
        generalize upd H' pt (.tup (bs.map V.ref)) = H5 at *
        have hcl : (cutV [V.str Op.plus.word, V.ref b, V.ref c] none (some 1)).length + (bs.map V.ref).length ≤ sizeLine := by
          rw [List.length_map, hbl, sizeLine_eq]; exact Nat.le_of_ble_eq_true rfl
        have hcn : cutV [V.str Op.plus.word, V.ref b, V.ref c] none (some 1) ≠ [] := by intro z; cases z
        match bs, hbs5, hbl with
        | [b1, b2], .cons k1 (.cons k2 .nil), _ =>
          walk_at "vs"
          intro p6 H6 s6 e6
          exact q p6 H6 (s0.trans (s1.trans (s2.trans (sc.trans (s5.trans s6))))) (.bin e6 (k1.same s6) (k2.same s6))
    | minus =>
      walk_at "vs"
      refine ⟨show ¬ (HT.sIx 3 0 none = 0 ∧ HT.sIx 3 3 (some 1) = 3) from by decide, fun p1 hp1 => ?_⟩
      have s1 := same_new (.tup (cutV [V.str Op.minus.word, V.ref b, V.ref c] none (some 1))) hp1
      have e1 := s1 _ _ e
      have ep1 : upd H0 p1 (.tup (cutV [V.str Op.minus.word, V.ref b, V.ref c] none (some 1))) p1 = some (.tup (cutV [V.str Op.minus.word, V.ref b, V.ref c] none (some 1))) := upd_same
      have hk1 := hk.same s1
      generalize upd H0 p1 (.tup (cutV [V.str Op.minus.word, V.ref b, V.ref c] none (some 1))) = H1 at *
      walk_at "vs"
      intro p2 hp2
      have s2 := same_new (.tup (cutV [V.str Op.minus.word, V.ref b, V.ref c] (some 1) none)) hp2
      have ep2 : upd H1 p2 (.tup (cutV [V.str Op.minus.word, V.ref b, V.ref c] (some 1) none)) p2 = some (.tup ([b, c].map V.ref)) := upd_same
      have hk2 := hk1.same s2
      have ep12 := s2 _ _ ep1
      generalize upd H1 p2 (.tup (cutV [V.str Op.minus.word, V.ref b, V.ref c] (some 1) none)) = H2 at *
      walk_at "vs"
      intro Dd hDd
      refine comp_tup (xs := [b, c].map V.ref) (fun i σ' H' => Wr ((∃ t, σ' = t :: [some (.str old), some (.str new)]) ∧ Same H2 H' ∧ ∃ bs : List Addr, H' Dd = some (.lst (bs.map V.ref)) ∧ bs.length = i ∧ IsRq H' bs (([r1, r2].take i).map (exR old new)))) ?_ ?_ ?_ ?_
      · exact .mk ⟨⟨none, rfl⟩, same_new _ hDd, [], upd_same, rfl, .nil⟩
      · intro i σ' H' _ hP
        exact SqT.of (hP.h.2.1 _ _ ep2)
      · intro i x σ' H' hx hP
        obtain ⟨⟨t, rfl⟩, sc, bs, ed, hbl, hbs⟩ := hP.h
        clear hP
        obtain ⟨b', r', rfl, hr', hb'⟩ := hk2.at hx
        have hb2 := hb'.same sc
        have hdr := hdk r' (List.mem_of_getElem? hr')
        have hgr := hgk r' (List.mem_of_getElem? hr')
        have hil : i < 3 := by
          have := (List.getElem?_eq_some_iff.mp hr').1
          simp at this; omega
        have hz : (bs.map V.ref).length < sizeLine := by rw [List.length_map, hbl, sizeLine_eq]; omega
        walk_at "vs"
        intro a' H4 s4 hR4
        have ed4 := s4 _ _ ed
        walk_at "vs"
        have tz := tups_set (.lst (bs.map V.ref ++ [V.ref a'])) ed4
        refine .mk ⟨⟨_, rfl⟩, same_updN _ hDd (sc.trans s4), bs ++ [a'], ?_, by simp [hbl], ?_⟩
        · rw [upd_same, List.map_append]; rfl
        · rw [List.take_succ, hr', List.map_append]
          exact ((hbs.same s4).tups tz).app (.cons (hR4.tups tz) .nil)
      · intro σ' H' hP
        obtain ⟨_, sc, bs, ed, hbl, hbs⟩ := hP.h
        rw [List.take_of_length_le (by simp)] at hbs
        have ep13 := sc _ _ ep12
        walk_at "vs"
        intro pt hpt
        have s5 := same_new (.tup (bs.map V.ref)) hpt
        have ept : upd H' pt (.tup (bs.map V.ref)) pt = some (.tup (bs.map V.ref)) := upd_same
        have ep14 := s5 _ _ ep13
        have hbs5 := hbs.same s5
        generalize upd H' pt (.tup (bs.map V.ref)) = H5 at *
        have hcl : (cutV [V.str Op.minus.word, V.ref b, V.ref c] none (some 1)).length + (bs.map V.ref).length ≤ sizeLine := by
          rw [List.length_map, hbl, sizeLine_eq]; exact Nat.le_of_ble_eq_true rfl
        have hcn : cutV [V.str Op.minus.word, V.ref b, V.ref c] none (some 1) ≠ [] := by intro z; cases z
        match bs, hbs5, hbl with
        | [b1, b2], .cons k1 (.cons k2 .nil), _ =>
          walk_at "vs"
          intro p6 H6 s6 e6
          exact q p6 H6 (s0.trans (s1.trans (s2.trans (sc.trans (s5.trans s6))))) (.bin e6 (k1.same s6) (k2.same s6))
    | times =>
      walk_at "vs"
      refine ⟨show ¬ (HT.sIx 3 0 none = 0 ∧ HT.sIx 3 3 (some 1) = 3) from by decide, fun p1 hp1 => ?_⟩
      have s1 := same_new (.tup (cutV [V.str Op.times.word, V.ref b, V.ref c] none (some 1))) hp1
      have e1 := s1 _ _ e
      have ep1 : upd H0 p1 (.tup (cutV [V.str Op.times.word, V.ref b, V.ref c] none (some 1))) p1 = some (.tup (cutV [V.str Op.times.word, V.ref b, V.ref c] none (some 1))) := upd_same
      have hk1 := hk.same s1
      generalize upd H0 p1 (.tup (cutV [V.str Op.times.word, V.ref b, V.ref c] none (some 1))) = H1 at *
      walk_at "vs"
      intro p2 hp2
      have s2 := same_new (.tup (cutV [V.str Op.times.word, V.ref b, V.ref c] (some 1) none)) hp2
      have ep2 : upd H1 p2 (.tup (cutV [V.str Op.times.word, V.ref b, V.ref c] (some 1) none)) p2 = some (.tup ([b, c].map V.ref)) := upd_same
      have hk2 := hk1.same s2
      have ep12 := s2 _ _ ep1
      generalize upd H1 p2 (.tup (cutV [V.str Op.times.word, V.ref b, V.ref c] (some 1) none)) = H2 at *
      walk_at "vs"
      intro Dd hDd
      refine comp_tup (xs := [b, c].map V.ref) (fun i σ' H' => Wr ((∃ t, σ' = t :: [some (.str old), some (.str new)]) ∧ Same H2 H' ∧ ∃ bs : List Addr, H' Dd = some (.lst (bs.map V.ref)) ∧ bs.length = i ∧ IsRq H' bs (([r1, r2].take i).map (exR old new)))) ?_ ?_ ?_ ?_
      · exact .mk ⟨⟨none, rfl⟩, same_new _ hDd, [], upd_same, rfl, .nil⟩
      · intro i σ' H' _ hP
        exact SqT.of (hP.h.2.1 _ _ ep2)
      · intro i x σ' H' hx hP
        obtain ⟨⟨t, rfl⟩, sc, bs, ed, hbl, hbs⟩ := hP.h
        clear hP
        obtain ⟨b', r', rfl, hr', hb'⟩ := hk2.at hx
        have hb2 := hb'.same sc
        have hdr := hdk r' (List.mem_of_getElem? hr')
        have hgr := hgk r' (List.mem_of_getElem? hr')
        have hil : i < 3 := by
          have := (List.getElem?_eq_some_iff.mp hr').1
          simp at this; omega
        have hz : (bs.map V.ref).length < sizeLine := by rw [List.length_map, hbl, sizeLine_eq]; omega
        walk_at "vs"
        intro a' H4 s4 hR4
        have ed4 := s4 _ _ ed
        walk_at "vs"
        have tz := tups_set (.lst (bs.map V.ref ++ [V.ref a'])) ed4
        refine .mk ⟨⟨_, rfl⟩, same_updN _ hDd (sc.trans s4), bs ++ [a'], ?_, by simp [hbl], ?_⟩
        · rw [upd_same, List.map_append]; rfl
        · rw [List.take_succ, hr', List.map_append]
          exact ((hbs.same s4).tups tz).app (.cons (hR4.tups tz) .nil)
      · intro σ' H' hP
        obtain ⟨_, sc, bs, ed, hbl, hbs⟩ := hP.h
        rw [List.take_of_length_le (by simp)] at hbs
        have ep13 := sc _ _ ep12
        walk_at "vs"
        intro pt hpt
        have s5 := same_new (.tup (bs.map V.ref)) hpt
        have ept : upd H' pt (.tup (bs.map V.ref)) pt = some (.tup (bs.map V.ref)) := upd_same
        have ep14 := s5 _ _ ep13
        have hbs5 := hbs.same s5
        generalize upd H' pt (.tup (bs.map V.ref)) = H5 at *
        have hcl : (cutV [V.str Op.times.word, V.ref b, V.ref c] none (some 1)).length + (bs.map V.ref).length ≤ sizeLine := by
          rw [List.length_map, hbl, sizeLine_eq]; exact Nat.le_of_ble_eq_true rfl
        have hcn : cutV [V.str Op.times.word, V.ref b, V.ref c] none (some 1) ≠ [] := by intro z; cases z
        match bs, hbs5, hbl with
        | [b1, b2], .cons k1 (.cons k2 .nil), _ =>
          walk_at "vs"
          intro p6 H6 s6 e6
          exact q p6 H6 (s0.trans (s1.trans (s2.trans (sc.trans (s5.trans s6))))) (.bin e6 (k1.same s6) (k2.same s6))
    | most =>
      walk_at "vs"
      refine ⟨show ¬ (HT.sIx 3 0 none = 0 ∧ HT.sIx 3 3 (some 1) = 3) from by decide, fun p1 hp1 => ?_⟩
      have s1 := same_new (.tup (cutV [V.str Op.most.word, V.ref b, V.ref c] none (some 1))) hp1
      have e1 := s1 _ _ e
      have ep1 : upd H0 p1 (.tup (cutV [V.str Op.most.word, V.ref b, V.ref c] none (some 1))) p1 = some (.tup (cutV [V.str Op.most.word, V.ref b, V.ref c] none (some 1))) := upd_same
      have hk1 := hk.same s1
      generalize upd H0 p1 (.tup (cutV [V.str Op.most.word, V.ref b, V.ref c] none (some 1))) = H1 at *
      walk_at "vs"
      intro p2 hp2
      have s2 := same_new (.tup (cutV [V.str Op.most.word, V.ref b, V.ref c] (some 1) none)) hp2
      have ep2 : upd H1 p2 (.tup (cutV [V.str Op.most.word, V.ref b, V.ref c] (some 1) none)) p2 = some (.tup ([b, c].map V.ref)) := upd_same
      have hk2 := hk1.same s2
      have ep12 := s2 _ _ ep1
      generalize upd H1 p2 (.tup (cutV [V.str Op.most.word, V.ref b, V.ref c] (some 1) none)) = H2 at *
      walk_at "vs"
      intro Dd hDd
      refine comp_tup (xs := [b, c].map V.ref) (fun i σ' H' => Wr ((∃ t, σ' = t :: [some (.str old), some (.str new)]) ∧ Same H2 H' ∧ ∃ bs : List Addr, H' Dd = some (.lst (bs.map V.ref)) ∧ bs.length = i ∧ IsRq H' bs (([r1, r2].take i).map (exR old new)))) ?_ ?_ ?_ ?_
      · exact .mk ⟨⟨none, rfl⟩, same_new _ hDd, [], upd_same, rfl, .nil⟩
      · intro i σ' H' _ hP
        exact SqT.of (hP.h.2.1 _ _ ep2)
      · intro i x σ' H' hx hP
        obtain ⟨⟨t, rfl⟩, sc, bs, ed, hbl, hbs⟩ := hP.h
        clear hP
        obtain ⟨b', r', rfl, hr', hb'⟩ := hk2.at hx
        have hb2 := hb'.same sc
        have hdr := hdk r' (List.mem_of_getElem? hr')
        have hgr := hgk r' (List.mem_of_getElem? hr')
        have hil : i < 3 := by
          have := (List.getElem?_eq_some_iff.mp hr').1
          simp at this; omega
        have hz : (bs.map V.ref).length < sizeLine := by rw [List.length_map, hbl, sizeLine_eq]; omega
        walk_at "vs"
        intro a' H4 s4 hR4
        have ed4 := s4 _ _ ed
        walk_at "vs"
        have tz := tups_set (.lst (bs.map V.ref ++ [V.ref a'])) ed4
        refine .mk ⟨⟨_, rfl⟩, same_updN _ hDd (sc.trans s4), bs ++ [a'], ?_, by simp [hbl], ?_⟩
        · rw [upd_same, List.map_append]; rfl
        · rw [List.take_succ, hr', List.map_append]
          exact ((hbs.same s4).tups tz).app (.cons (hR4.tups tz) .nil)
      · intro σ' H' hP
        obtain ⟨_, sc, bs, ed, hbl, hbs⟩ := hP.h
        rw [List.take_of_length_le (by simp)] at hbs
        have ep13 := sc _ _ ep12
        walk_at "vs"
        intro pt hpt
        have s5 := same_new (.tup (bs.map V.ref)) hpt
        have ept : upd H' pt (.tup (bs.map V.ref)) pt = some (.tup (bs.map V.ref)) := upd_same
        have ep14 := s5 _ _ ep13
        have hbs5 := hbs.same s5
        generalize upd H' pt (.tup (bs.map V.ref)) = H5 at *
        have hcl : (cutV [V.str Op.most.word, V.ref b, V.ref c] none (some 1)).length + (bs.map V.ref).length ≤ sizeLine := by
          rw [List.length_map, hbl, sizeLine_eq]; exact Nat.le_of_ble_eq_true rfl
        have hcn : cutV [V.str Op.most.word, V.ref b, V.ref c] none (some 1) ≠ [] := by intro z; cases z
        match bs, hbs5, hbl with
        | [b1, b2], .cons k1 (.cons k2 .nil), _ =>
          walk_at "vs"
          intro p6 H6 s6 e6
          exact q p6 H6 (s0.trans (s1.trans (s2.trans (sc.trans (s5.trans s6))))) (.bin e6 (k1.same s6) (k2.same s6))
  | @pick _ b c d r1 r2 r3 e h1 h2 h3 =>
    have hk : IsRq H0 [b, c, d] [r1, r2, r3] := .cons h1 (.cons h2 (.cons h3 .nil))
    have hdk : ∀ r ∈ [r1, r2, r3], r.depth ≤ m := by
      have : max r1.depth (max r2.depth r3.depth) + 1 ≤ m + 1 := hd
      intro r hr'
      rcases List.mem_cons.mp hr' with rfl | z
      · omega
      · rcases List.mem_cons.mp z with rfl | z
        · omega
        · rw [List.mem_singleton.mp z]; omega
    have hgk : ∀ r ∈ [r1, r2, r3], r.Good := by
      intro r hr'
      rcases List.mem_cons.mp hr' with rfl | z
      · exact hg.1
      · rcases List.mem_cons.mp z with rfl | z
        · exact hg.2.1
        · rw [List.mem_singleton.mp z]; exact hg.2.2
    have hm8 : m ≤ 8 := by omega
    walk_at "vs"
    refine ⟨show ¬ (HT.sIx 4 0 none = 0 ∧ HT.sIx 4 4 (some 1) = 4) from by decide, fun p1 hp1 => ?_⟩
    have s1 := same_new (.tup (cutV [V.str "pick", V.ref b, V.ref c, V.ref d] none (some 1))) hp1
    have e1 := s1 _ _ e
    have ep1 : upd H0 p1 (.tup (cutV [V.str "pick", V.ref b, V.ref c, V.ref d] none (some 1))) p1 = some (.tup (cutV [V.str "pick", V.ref b, V.ref c, V.ref d] none (some 1))) := upd_same
    have hk1 := hk.same s1
    generalize upd H0 p1 (.tup (cutV [V.str "pick", V.ref b, V.ref c, V.ref d] none (some 1))) = H1 at *
    walk_at "vs"
    intro p2 hp2
    have s2 := same_new (.tup (cutV [V.str "pick", V.ref b, V.ref c, V.ref d] (some 1) none)) hp2
    have ep2 : upd H1 p2 (.tup (cutV [V.str "pick", V.ref b, V.ref c, V.ref d] (some 1) none)) p2 = some (.tup ([b, c, d].map V.ref)) := upd_same
    have hk2 := hk1.same s2
    have ep12 := s2 _ _ ep1
    generalize upd H1 p2 (.tup (cutV [V.str "pick", V.ref b, V.ref c, V.ref d] (some 1) none)) = H2 at *
    walk_at "vs"
    intro Dd hDd
    refine comp_tup (xs := [b, c, d].map V.ref) (fun i σ' H' => Wr ((∃ t, σ' = t :: [some (.str old), some (.str new)]) ∧ Same H2 H' ∧ ∃ bs : List Addr, H' Dd = some (.lst (bs.map V.ref)) ∧ bs.length = i ∧ IsRq H' bs (([r1, r2, r3].take i).map (exR old new)))) ?_ ?_ ?_ ?_
    · exact .mk ⟨⟨none, rfl⟩, same_new _ hDd, [], upd_same, rfl, .nil⟩
    · intro i σ' H' _ hP
      exact SqT.of (hP.h.2.1 _ _ ep2)
    · intro i x σ' H' hx hP
      obtain ⟨⟨t, rfl⟩, sc, bs, ed, hbl, hbs⟩ := hP.h
      clear hP
      obtain ⟨b', r', rfl, hr', hb'⟩ := hk2.at hx
      have hb2 := hb'.same sc
      have hdr := hdk r' (List.mem_of_getElem? hr')
      have hgr := hgk r' (List.mem_of_getElem? hr')
      have hil : i < 3 := by
        have := (List.getElem?_eq_some_iff.mp hr').1
        simp at this; omega
      have hz : (bs.map V.ref).length < sizeLine := by rw [List.length_map, hbl, sizeLine_eq]; omega
      walk_at "vs"
      intro a' H4 s4 hR4
      have ed4 := s4 _ _ ed
      walk_at "vs"
      have tz := tups_set (.lst (bs.map V.ref ++ [V.ref a'])) ed4
      refine .mk ⟨⟨_, rfl⟩, same_updN _ hDd (sc.trans s4), bs ++ [a'], ?_, by simp [hbl], ?_⟩
      · rw [upd_same, List.map_append]; rfl
      · rw [List.take_succ, hr', List.map_append]
        exact ((hbs.same s4).tups tz).app (.cons (hR4.tups tz) .nil)
    · intro σ' H' hP
      obtain ⟨_, sc, bs, ed, hbl, hbs⟩ := hP.h
      rw [List.take_of_length_le (by simp)] at hbs
      have ep13 := sc _ _ ep12
      walk_at "vs"
      intro pt hpt
      have s5 := same_new (.tup (bs.map V.ref)) hpt
      have ept : upd H' pt (.tup (bs.map V.ref)) pt = some (.tup (bs.map V.ref)) := upd_same
      have ep14 := s5 _ _ ep13
      have hbs5 := hbs.same s5
      generalize upd H' pt (.tup (bs.map V.ref)) = H5 at *
      have hcl : (cutV [V.str "pick", V.ref b, V.ref c, V.ref d] none (some 1)).length + (bs.map V.ref).length ≤ sizeLine := by
        rw [List.length_map, hbl, sizeLine_eq]; exact Nat.le_of_ble_eq_true rfl
      have hcn : cutV [V.str "pick", V.ref b, V.ref c, V.ref d] none (some 1) ≠ [] := by intro z; cases z
      match bs, hbs5, hbl with
      | [b1, b2, b3], .cons k1 (.cons k2 (.cons k3 .nil)), _ =>
        walk_at "vs"
        intro p6 H6 s6 e6
        exact q p6 H6 (s0.trans (s1.trans (s2.trans (sc.trans (s5.trans s6))))) (.pick e6 (k1.same s6) (k2.same s6) (k3.same s6))
theorem ok_law_exchanged {f : Addr} {fd : FuncData} (T_law_exchanged : FnT K mg "_law_exchanged" s_law_exchanged ["r", "old", "new"] f fd) (T : Blt mg) : ∀ m : Nat, FnOk P w K mg base CX0 (m + 1) f fd ["r", "old", "new"] (spEx m)
  | 0 => never fun vs H Q E h => by
    obtain ⟨a, r, old, new, _, _, _, hd, _⟩ := h
    have := r.depth_pos
    omega
  | m + 1 => step_law_exchanged T_law_exchanged (ok_law_exchanged T_law_exchanged T m) T
end

section
variable {P : Program} {w : World} {K : PySem.W.Frag} {mg : Str → Option Value} {base : Heap}
structure Fx (H : Hp) (d c xr xs xt pn pr p8 q1 q2 q3 : Addr) (r s t : R) (ts u1 u2 u3 : List Str) (ms : List Addr) (mrs : List R) : Prop where
  rr : IsRq H [xr, xs, xt] [r, s, t]
  e1 : H q1 = some (.lst (u1.map V.str))
  e2 : H q2 = some (.lst (u2.map V.str))
  e3 : H q3 = some (.lst (u3.map V.str))
  en : H pn = some (.tup (ts.map V.str))
  er : H pr = some (.lst [.ref q1, .ref q2, .ref q3])
  em : H p8 = some (.lst (ms.map V.ref))
  mm : IsRq H ms mrs
  dk : DeckAt H d c
theorem Fx.same {H H' : Hp} {d c xr xs xt pn pr p8 q1 q2 q3 : Addr} {r s t : R} {ts u1 u2 u3 : List Str} {ms : List Addr} {mrs : List R} (h : Fx H d c xr xs xt pn pr p8 q1 q2 q3 r s t ts u1 u2 u3 ms mrs) (z : Same H H') : Fx H' d c xr xs xt pn pr p8 q1 q2 q3 r s t ts u1 u2 u3 ms mrs :=
  ⟨h.rr.same z, z _ _ h.e1, z _ _ h.e2, z _ _ h.e3, z _ _ h.en, z _ _ h.er, z _ _ h.em, h.mm.same z, h.dk.same z⟩
theorem nodup_len {α : Type} [DecidableEq α] : ∀ (l m : List α), l.Nodup → (∀ x ∈ l, x ∈ m) → l.length ≤ m.length
  | [], m, _, _ => Nat.zero_le _
  | x :: l, m, hn, hs => by
    have hn' := List.nodup_cons.mp hn
    have h1 := List.perm_cons_erase (hs x List.mem_cons_self)
    have h2 := nodup_len l (m.erase x) hn'.2 fun y hy => (List.mem_erase_of_ne (fun e : y = x => hn'.1 (e ▸ hy))).mpr (hs y (List.mem_cons_of_mem _ hy))
    have h3 := h1.length_eq
    simp only [List.length_cons] at h3 ⊢
    omega
theorem due_len {ns us : List Str} (h : IsDue ns us) : us.length ≤ ns.length :=
  nodup_len us ns (List.Pairwise.imp (S := fun a b => a ≠ b) (fun {a b} (z : sl a b) (e : a = b) => sl_irr a (by rw [← e] at z; exact z)) h.1) fun x hx => (h.2 x).mp hx
/-- lists of names, one by one -/
inductive Lsts (H : Hp) : List Addr → List (List Str) → Prop where
  | nil : Lsts H [] []
  | cons {a : Addr} {ns : List Str} {as : List Addr} {nss : List (List Str)} (h : H a = some (.lst (ns.map V.str))) (t : Lsts H as nss) : Lsts H (a :: as) (ns :: nss)
theorem Lsts.same {H H' : Hp} (z : Same H H') {as : List Addr} {nss : List (List Str)} (h : Lsts H as nss) : Lsts H' as nss := by
  induction h with
  | nil => exact .nil
  | cons h _ ih => exact .cons (z _ _ h) ih
theorem Lsts.at {H : Hp} : ∀ {as : List Addr} {nss : List (List Str)}, Lsts H as nss → ∀ {i : Nat} {v : V}, (as.map V.ref)[i]? = some v → ∃ a ns, v = .ref a ∧ nss[i]? = some ns ∧ H a = some (.lst (ns.map V.str))
  | _, _, .nil, i, v, h => by simp at h
  | _, _, .cons (a := a) (ns := ns) h t, 0, v, e => ⟨a, ns, by simpa using e.symm, rfl, h⟩
  | _, _, .cons h t, i + 1, v, e => by
    obtain ⟨a, ns, e0, e1, e2⟩ := Lsts.at t (i := i) (v := v) (by simpa using e)
    exact ⟨a, ns, e0, by simpa using e1, e2⟩
theorem due_to {ns ns' us : List Str} (h : IsDue ns us) (e : ∀ x, x ∈ ns ↔ x ∈ ns') : IsDue ns' us := ⟨h.1, fun x => (h.2 x).trans (e x)⟩
theorem good_names : ∀ {r : R}, r.Good → ∀ x ∈ r.names, GName x
  | .num _, _, x, h => by simp [R.names] at h
  | .rd y, g, x, h => by rw [show x = y by simpa [R.names] using h]; exact g
  | .bin _ a b, g, x, h => (List.mem_append.mp h).elim (good_names g.1 x) (good_names g.2 x)
  | .pick a b c, g, x, h => (List.mem_append.mp h).elim (good_names g.1 x) fun z => (List.mem_append.mp z).elim (good_names g.2.1 x) (good_names g.2.2 x)
  | .cho a ns, g, x, h => (List.mem_append.mp h).elim (good_names g.1 x) (g.2.2.2 x)
noncomputable def mrsOf (r s t : R) (ts : List Str) (t0 : Str) : List R := ([Op.plus, Op.minus, Op.times, Op.most].map fun o => R.bin o r s) ++ [.pick r s t, .cho r ts, .rd t0]
noncomputable def Rok5 (R : R) : Prop := R.Good ∧ R.depth ≤ 8 ∧ R.nodes ≤ 61 ∧ R.names.length ≤ 1000
theorem rok5 {r s t : R} {ts : List Str} {t0 : Str} (h1 : r.Good ∧ r.depth ≤ 6 ∧ r.nodes ≤ 20) (h2 : s.Good ∧ s.depth ≤ 6 ∧ s.nodes ≤ 20) (h3 : t.Good ∧ t.depth ≤ 6 ∧ t.nodes ≤ 20) (ht : 1 ≤ ts.length ∧ ts.length ≤ 9 ∧ ∀ x ∈ ts, GName x) (h0 : GName t0) : ∀ R ∈ mrsOf r s t ts t0, Rok5 R := by
  have key : ∀ R : R, R.Good ∧ R.depth ≤ 8 ∧ R.nodes ≤ 61 → Rok5 R := fun R h => ⟨h.1, h.2.1, h.2.2, by have := names_le h.1; omega⟩
  intro R hR
  apply key
  rcases List.mem_append.mp hR with z | z
  · obtain ⟨o, _, rfl⟩ := List.mem_map.mp z
    exact ⟨⟨h1.1, h2.1⟩, by show max r.depth s.depth + 1 ≤ 8; omega, by show 1 + r.nodes + s.nodes ≤ 61; omega⟩
  · rcases List.mem_cons.mp z with rfl | z
    · exact ⟨⟨h1.1, h2.1, h3.1⟩, by show max r.depth (max s.depth t.depth) + 1 ≤ 8; omega, by show 1 + r.nodes + s.nodes + t.nodes ≤ 61; omega⟩
    · rcases List.mem_cons.mp z with rfl | z
      · exact ⟨⟨h1.1, ht⟩, by show r.depth + 1 ≤ 8; omega, by show 1 + r.nodes ≤ 61; omega⟩
      · rw [List.mem_singleton.mp z]
        exact ⟨h0, by show 1 ≤ 8; omega, by show 1 ≤ 61; omega⟩
theorem due7 {r s t : R} {ts u1 u2 u3 ds1 ds2 ds3 : List Str} {t0 : Str} (d1 : IsDue r.names u1) (d2 : IsDue s.names u2) (d3 : IsDue t.names u3) (k1 : IsDue [u1, u2].flatten ds1) (k2 : IsDue [u1, u2, u3].flatten ds2) (k3 : IsDue [u1, ts].flatten ds3) :
    ∀ (i : Nat) (R : R) (ns : List Str), (mrsOf r s t ts t0)[i]? = some R → [ds1, ds1, ds1, ds1, ds2, ds3, [t0]][i]? = some ns → IsDue R.names ns := by
  have e1 : ∀ x, x ∈ [u1, u2].flatten ↔ x ∈ r.names ++ s.names := fun x => by
    simp only [List.flatten_cons, List.flatten_nil, List.append_nil, List.mem_append, d1.2 x, d2.2 x]
  have e2 : ∀ x, x ∈ [u1, u2, u3].flatten ↔ x ∈ r.names ++ (s.names ++ t.names) := fun x => by
    simp only [List.flatten_cons, List.flatten_nil, List.append_nil, List.mem_append, d1.2 x, d2.2 x, d3.2 x]
  have e3 : ∀ x, x ∈ [u1, ts].flatten ↔ x ∈ r.names ++ ts := fun x => by
    simp only [List.flatten_cons, List.flatten_nil, List.append_nil, List.mem_append, d1.2 x]
  intro i R ns h1 h2
  match i, h1, h2 with
  | 0, h1, h2 => cases h1; cases h2; exact due_to k1 e1
  | 1, h1, h2 => cases h1; cases h2; exact due_to k1 e1
  | 2, h1, h2 => cases h1; cases h2; exact due_to k1 e1
  | 3, h1, h2 => cases h1; cases h2; exact due_to k1 e1
  | 4, h1, h2 => cases h1; cases h2; exact due_to k2 e2
  | 5, h1, h2 => cases h1; cases h2; exact due_to k3 e3
  | 6, h1, h2 => cases h1; cases h2; exact ⟨List.pairwise_singleton _ _, fun x => Iff.rfl⟩
  | i + 7, h1, h2 => cases h2
theorem merge3 {x y z : Str} (a b c : V) (h1 : x ≠ y) (h2 : x ≠ z) (h3 : y ≠ z) : mergeK [] [((Sum.inr x : Key), a), (Sum.inr y, b), (Sum.inr z, c)] = [(Sum.inr x, a), (Sum.inr y, b), (Sum.inr z, c)] := by
  simp [mergeK, putK, h1, h2, h3]
theorem but_same {S : List Addr} {H H1 H2 : Hp} (s : Same H H1) (b : But S H1 H2) (n : ∀ p ∈ S, H p = none) : Same H H2 := fun x o e => b x o (fun z => by rw [n x z] at e; cases e) (s x o e)
theorem filt_lt {U : List Str} {old : Str} : decide ((U.filter fun x => !decide (x = old)).length < U.length) = decide (old ∈ U) := by
  rw [Bool.eq_iff_iff, decide_eq_true_eq, decide_eq_true_eq]
  constructor
  · intro h
    apply Classical.byContradiction
    intro hn
    have : (U.filter fun x => !decide (x = old)) = U := List.filter_eq_self.mpr fun x hx => by
      have : x ≠ old := fun e => hn (e ▸ hx)
      simp [this]
    rw [this] at h
    exact Nat.lt_irrefl _ h
  · intro h
    have h1 : (U.filter fun x => !decide (x = old)).length ≤ U.length := List.length_filter_le _ _
    apply Classical.byContradiction
    intro hn
    have h2 : (U.filter fun x => !decide (x = old)).length = U.length := by omega
    have h3 := List.length_filter_eq_length_iff.mp h2 old h
    simp at h3
theorem ex_mem {ns U : List Str} {old new : Str} (hU : ∀ x, x ∈ U ↔ x ∈ ns) (x : Str) : x ∈ [U.filter fun x => !decide (x = old), (if decide (old ∈ U) = true then [new] else [])].flatten ↔ x ∈ ns.map (swp old new) := by
  rw [List.mem_map]
  simp only [List.flatten_cons, List.flatten_nil, List.append_nil, List.mem_append, List.mem_filter]
  constructor
  · rintro (⟨h1, h2⟩ | h)
    · have : x ≠ old := by simpa using h2
      exact ⟨x, (hU x).mp h1, by unfold swp; rw [if_neg this]⟩
    · by_cases ho : old ∈ U
      · rw [if_pos (decide_eq_true ho)] at h
        exact ⟨old, (hU old).mp ho, by unfold swp; rw [if_pos rfl]; exact (List.mem_singleton.mp h).symm⟩
      · rw [if_neg (by simpa using ho)] at h
        simp at h
  · rintro ⟨y, hy, e⟩
    by_cases hyo : y = old
    · subst hyo
      have ho : y ∈ U := (hU y).mpr hy
      right
      rw [if_pos (decide_eq_true ho)]
      unfold swp at e
      rw [if_pos rfl] at e
      rw [e]; simp
    · unfold swp at e
      rw [if_neg hyo] at e
      subst e
      left
      exact ⟨(hU y).mpr hy, by simpa using hyo⟩
noncomputable abbrev s_law : Stmt := top 23
theorem sc_law : FnScope ["script", "deck", "r", "s", "t", "names", "rows", "made", "due", "one", "told", "part", "house", "old", "other", "kept"] ["script"] (defScope s_law) := ⟨rfl, rfl, rfl, by decide +kernel, rfl, by decide +kernel, by decide +kernel⟩
theorem lo_law_deck : Loc (defScope s_law) "deck" := by decide +kernel
theorem gl_law__law_deck : (defScope s_law).names.lookup ("_law_deck" : Str) = some NameKind.globalImplicit := by decide +kernel
theorem vo_law_script : VarOk (defScope s_law) "script" := by decide +kernel
theorem db_law__law_deck : (("_law_deck" : Str) == ("__debug__" : Str)) = false := by decide +kernel
theorem gl_law_range : (defScope s_law).names.lookup ("range" : Str) = some NameKind.globalImplicit := by decide +kernel
theorem db_law__law_draw : (("_law_draw" : Str) == ("__debug__" : Str)) = false := by decide +kernel
theorem db_law__law_recipe : (("_law_recipe" : Str) == ("__debug__" : Str)) = false := by decide +kernel
theorem lo_law_t : Loc (defScope s_law) "t" := by decide +kernel
theorem lo_law_s : Loc (defScope s_law) "s" := by decide +kernel
theorem lo_law_r : Loc (defScope s_law) "r" := by decide +kernel
theorem lo_law_names : Loc (defScope s_law) "names" := by decide +kernel
theorem gl_law_tuple : (defScope s_law).names.lookup ("tuple" : Str) = some NameKind.globalImplicit := by decide +kernel
theorem gl_law__law_draw : (defScope s_law).names.lookup ("_law_draw" : Str) = some NameKind.globalImplicit := by decide +kernel
theorem vo_law_deck : VarOk (defScope s_law) "deck" := by decide +kernel
theorem db_law__law_name : (("_law_name" : Str) == ("__debug__" : Str)) = false := by decide +kernel
theorem nn_law_tuple : ("tuple" : Str) ≠ "__name__" := by decide +kernel
theorem db_law_tuple : (("tuple" : Str) == ("__debug__" : Str)) = false := by decide +kernel
theorem lo_law_rows : Loc (defScope s_law) "rows" := by decide +kernel
theorem gl_law_names_in : (defScope s_law).names.lookup ("names_in" : Str) = some NameKind.globalImplicit := by decide +kernel
theorem vo_law_t : VarOk (defScope s_law) "t" := by decide +kernel
theorem db_law_names_in : (("names_in" : Str) == ("__debug__" : Str)) = false := by decide +kernel
theorem vo_law_s : VarOk (defScope s_law) "s" := by decide +kernel
theorem vo_law_r : VarOk (defScope s_law) "r" := by decide +kernel
theorem lo_law_made : Loc (defScope s_law) "made" := by decide +kernel
theorem vo_law_names : VarOk (defScope s_law) "names" := by decide +kernel
theorem vo_law_made : VarOk (defScope s_law) "made" := by decide +kernel
theorem lo_law_due : Loc (defScope s_law) "due" := by decide +kernel
theorem gl_law__law_together : (defScope s_law).names.lookup ("_law_together" : Str) = some NameKind.globalImplicit := by decide +kernel
theorem vo_law_rows : VarOk (defScope s_law) "rows" := by decide +kernel
theorem db_law__law_together : (("_law_together" : Str) == ("__debug__" : Str)) = false := by decide +kernel
theorem gl_law_zip : (defScope s_law).names.lookup ("zip" : Str) = some NameKind.globalImplicit := by decide +kernel
theorem vo_law_due : VarOk (defScope s_law) "due" := by decide +kernel
theorem lo_law_told : Loc (defScope s_law) "told" := by decide +kernel
theorem lo_law_one : Loc (defScope s_law) "one" := by decide +kernel
theorem vo_law_one : VarOk (defScope s_law) "one" := by decide +kernel
theorem vo_law_told : VarOk (defScope s_law) "told" := by decide +kernel
theorem gl_law_is_recipe : (defScope s_law).names.lookup ("is_recipe" : Str) = some NameKind.globalImplicit := by decide +kernel
theorem db_law_is_recipe : (("is_recipe" : Str) == ("__debug__" : Str)) = false := by decide +kernel
theorem lo_law_part : Loc (defScope s_law) "part" := by decide +kernel
theorem vo_law_part : VarOk (defScope s_law) "part" := by decide +kernel
theorem lo_law_house : Loc (defScope s_law) "house" := by decide +kernel
theorem gl_law_is_house : (defScope s_law).names.lookup ("is_house" : Str) = some NameKind.globalImplicit := by decide +kernel
theorem vo_law_house : VarOk (defScope s_law) "house" := by decide +kernel
theorem db_law_is_house : (("is_house" : Str) == ("__debug__" : Str)) = false := by decide +kernel
theorem lo_law_old : Loc (defScope s_law) "old" := by decide +kernel
theorem gl_law_len : (defScope s_law).names.lookup ("len" : Str) = some NameKind.globalImplicit := by decide +kernel
theorem nn_law_len : ("len" : Str) ≠ "__name__" := by decide +kernel
theorem db_law_len : (("len" : Str) == ("__debug__" : Str)) = false := by decide +kernel
theorem lo_law_other : Loc (defScope s_law) "other" := by decide +kernel
theorem gl_law__law_exchanged : (defScope s_law).names.lookup ("_law_exchanged" : Str) = some NameKind.globalImplicit := by decide +kernel
theorem vo_law_old : VarOk (defScope s_law) "old" := by decide +kernel
theorem db_law__law_exchanged : (("_law_exchanged" : Str) == ("__debug__" : Str)) = false := by decide +kernel
theorem lo_law_kept : Loc (defScope s_law) "kept" := by decide +kernel
theorem vo_law_other : VarOk (defScope s_law) "other" := by decide +kernel
theorem gl_law_int : (defScope s_law).names.lookup ("int" : Str) = some NameKind.globalImplicit := by decide +kernel
theorem vo_law_kept : VarOk (defScope s_law) "kept" := by decide +kernel
theorem nn_law_int : ("int" : Str) ≠ "__name__" := by decide +kernel
theorem db_law_int : (("int" : Str) == ("__debug__" : Str)) = false := by decide +kernel
theorem ok_law {f g1 g2 g3 g4 g5 g6 g7 g8 g9 : Addr} {fd gd1 gd2 gd3 gd4 gd5 gd6 gd7 gd8 gd9 : FuncData} (T_law : FnT K mg "law" s_law ["script"] f fd)
    (T_law_deck : FnT K mg "_law_deck" s_law_deck ["script"] g1 gd1) (G_law_deck : FnOk P w K mg base CX0 1 g1 gd1 ["script"] (spDeck K))
    (T_law_draw : FnT K mg "_law_draw" s_law_draw ["deck", "many"] g2 gd2) (G_law_draw : FnOk P w K mg base CX0 1 g2 gd2 ["deck", "many"] spDraw)
    (T_law_recipe : FnT K mg "_law_recipe" s_law_recipe ["deck", "deep", "left"] g3 gd3) (G_law_recipe : FnOk P w K mg base CX0 8 g3 gd3 ["deck", "deep", "left"] (spRec2 6))
    (T_names_in : FnT K mg "names_in" s_names_in ["r"] g4 gd4) (G_names_in : FnOk P w K mg base CX0 2 g4 gd4 ["r"] spNames)
    (T_law_name : FnT K mg "_law_name" s_law_name ["deck"] g5 gd5) (G_law_name : FnOk P w K mg base CX0 2 g5 gd5 ["deck"] spName)
    (T_is_recipe : FnT K mg "is_recipe" s_is_recipe ["thing"] g6 gd6) (G_is_recipe : FnOk P w K mg base CX0 4 g6 gd6 ["thing"] (spIsRec K))
    (T_is_house : FnT K mg "is_house" s_is_house ["thing"] g7 gd7) (G_is_house : FnOk P w K mg base CX0 5 g7 gd7 ["thing"] spHouse)
    (T_law_together : FnT K mg "_law_together" s_law_together ["rows"] g8 gd8) (G_law_together : FnOk P w K mg base CX0 1 g8 gd8 ["rows"] spTog)
    (T_law_exchanged : FnT K mg "_law_exchanged" s_law_exchanged ["r", "old", "new"] g9 gd9) (G_law_exchanged : FnOk P w K mg base CX0 9 g9 gd9 ["r", "old", "new"] (spEx 8))
    (T : Blt mg) : FnOk P w K mg base CX0 11 f fd ["script"] (spLaw K) := by
  refine T_law.F.okQ sc_law (fun vs H Q E h => ?_) (fun cdv A outer s H vs Q E hr h => ?_)
  · obtain ⟨a, ns, rfl, _⟩ := h
    rfl
  obtain ⟨a, ns, rfl, hS, h63, q⟩ := h
  refine ⟨_, (qss_cons (qs_set (i := 1) sc_law.nd rfl lo_law_deck (qe_call (G_law_deck.mono (by omega)) hr gl_law__law_deck T_law_deck.m T_law_deck.F.kp T_law_deck.b .nil pass0 (qa_N (qe_var 0 vo_law_script) qa_nil) db_law__law_deck))
    (qss_cons (qs_asg (qe_comp rfl (n := 1) (fr := [1]) (N := ["k", "deck"]) (cs_mk (scX := defScope s_law) (NX := ["script", "deck", "r", "s", "t", "names", "rows", "made", "due", "one", "told", "part", "house", "old", "other", "kept"]) rfl rfl (by decide +kernel)) (qi_range1 gl_law_range T.b_range (qa_C qe_int qa_nil)) (fun _ _ _ _ _ => (qgx (i := 0) (show List.Nodup (α := Str) ["k", "deck"] by decide) (locC (by decide +kernel)))) (fun _ _ _ _ _ => qi_nil) (fun _ _ _ _ _ => (qe_call (G_law_recipe.mono (by omega)) hr (glC (by decide +kernel)) T_law_recipe.m T_law_recipe.F.kp T_law_recipe.b .nil pass0 (qa_N (qe_var 1 (VarC.ok (by decide +kernel))) (qa_B (qe_op qop_add qe_int (qe_call (G_law_draw.mono (by omega)) hr (glC (by decide +kernel)) T_law_draw.m T_law_draw.F.kp T_law_draw.b .nil pass0 (qa_N (qe_var 1 (VarC.ok (by decide +kernel))) (qa_C qe_int qa_nil)) db_law__law_draw)) (qa_L (qe_lst (qa_C qe_int qa_nil)) qa_nil))) db_law__law_recipe))) (qg_lst rfl (qgs_cons (qg_name (i := 2) sc_law.nd rfl lo_law_r) (qgs_cons (qg_name (i := 3) sc_law.nd rfl lo_law_s) (qgs_cons (qg_name (i := 4) sc_law.nd rfl lo_law_t) qgs_nil)))))
    (qss_cons (qs_set (i := 5) sc_law.nd rfl lo_law_names (qe_callTy qc_tuple_of gl_law_tuple T.b_tuple bt_tuple (qa_M (qe_comp rfl (n := 1) (fr := [1]) (N := ["k", "deck"]) (cs_mk (scX := defScope s_law) (NX := ["script", "deck", "r", "s", "t", "names", "rows", "made", "due", "one", "told", "part", "house", "old", "other", "kept"]) rfl rfl (by decide +kernel)) (qi_range1 gl_law_range T.b_range (qa_B (qe_op qop_add qe_int (qe_call (G_law_draw.mono (by omega)) hr gl_law__law_draw T_law_draw.m T_law_draw.F.kp T_law_draw.b .nil pass0 (qa_N (qe_var 1 vo_law_deck) (qa_C qe_int qa_nil)) db_law__law_draw)) qa_nil)) (fun _ _ _ _ _ => (qgx (i := 0) (show List.Nodup (α := Str) ["k", "deck"] by decide) (locC (by decide +kernel)))) (fun _ _ _ _ _ => qi_nil) (fun _ _ _ _ _ => (qe_call (G_law_name.mono (by omega)) hr (glC (by decide +kernel)) T_law_name.m T_law_name.F.kp T_law_name.b .nil pass0 (qa_N (qe_var 1 (VarC.ok (by decide +kernel))) qa_nil) db_law__law_name))) qa_nil) nn_law_tuple db_law_tuple))
    (qss_cons (qs_set (i := 6) sc_law.nd rfl lo_law_rows (qe_lst (qa_F (qe_call (G_names_in.mono (by omega)) hr gl_law_names_in T_names_in.m T_names_in.F.kp T_names_in.b .nil pass0 (qa_N (qe_var 2 vo_law_r) qa_nil) db_law_names_in) (qa_F (qe_call (G_names_in.mono (by omega)) hr gl_law_names_in T_names_in.m T_names_in.F.kp T_names_in.b .nil pass0 (qa_N (qe_var 3 vo_law_s) qa_nil) db_law_names_in) (qa_F (qe_call (G_names_in.mono (by omega)) hr gl_law_names_in T_names_in.m T_names_in.F.kp T_names_in.b .nil pass0 (qa_N (qe_var 4 vo_law_t) qa_nil) db_law_names_in) qa_nil)))))
    (qss_cons (qs_set (i := 7) sc_law.nd rfl lo_law_made (qe_op qop_cat (qe_comp rfl (n := 1) (fr := [2, 3]) (N := ["word", "r", "s"]) (cs_mk (scX := defScope s_law) (NX := ["script", "deck", "r", "s", "t", "names", "rows", "made", "due", "one", "told", "part", "house", "old", "other", "kept"]) rfl rfl (by decide +kernel)) (qi_list (qe_lst (qa_C qe_str (qa_C qe_str (qa_C qe_str (qa_C qe_str qa_nil)))))) (fun _ _ _ _ _ => (qgx (i := 0) (show List.Nodup (α := Str) ["word", "r", "s"] by decide) (locC (by decide +kernel)))) (fun _ _ _ _ _ => qi_nil) (fun _ _ _ _ _ => (qe_tup (qa_N (qe_var 0 (VarC.ok (by decide +kernel))) (qa_N (qe_var 1 (VarC.ok (by decide +kernel))) (qa_N (qe_var 2 (VarC.ok (by decide +kernel))) qa_nil)))))) (qe_lst (qa_T (qe_tup (qa_C qe_str (qa_N (qe_var 2 vo_law_r) (qa_N (qe_var 3 vo_law_s) (qa_N (qe_var 4 vo_law_t) qa_nil))))) (qa_T (qe_tup (qa_C qe_str (qa_N (qe_var 2 vo_law_r) (qa_N (qe_var 5 vo_law_names) qa_nil)))) qa_nil)))))
    (qss_cons (qs_expr (qe_bm PySem.F.plainAttrs_list PySem.F.slot_list_append PySem.F.type_list_append qmt_append (qe_var 7 vo_law_made) (qa_T (qe_tup (qa_C qe_str (qa_S (qe_ix qix_tup (qe_var 5 vo_law_names) qe_int) qa_nil))) qa_nil)))
    (qss_cons (qs_set (i := 8) sc_law.nd rfl lo_law_due (qe_op qop_cat (qe_op qop_rep (qe_lst (qa_F (qe_call (G_law_together.mono (by omega)) hr gl_law__law_together T_law_together.m T_law_together.F.kp T_law_together.b .nil pass0 (qa_S (qe_slice qsl_list (qe_var 6 vo_law_rows) qo_none (qo_some qe_int)) qa_nil) db_law__law_together) qa_nil)) qe_int) (qe_lst (qa_F (qe_call (G_law_together.mono (by omega)) hr gl_law__law_together T_law_together.m T_law_together.F.kp T_law_together.b .nil pass0 (qa_N (qe_var 6 vo_law_rows) qa_nil) db_law__law_together) (qa_F (qe_call (G_law_together.mono (by omega)) hr gl_law__law_together T_law_together.m T_law_together.F.kp T_law_together.b .nil pass0 (qa_L (qe_lst (qa_S (qe_ix qix_list (qe_var 6 vo_law_rows) qe_int) (qa_N (qe_var 5 vo_law_names) qa_nil))) qa_nil) db_law__law_together) (qa_L (qe_lst (qa_S (qe_ix qix_tup (qe_var 5 vo_law_names) qe_int) qa_nil)) qa_nil))))))
    (qss_cons (qs_for PassesOwn.never rfl (qi_zip gl_law_zip T.b_zip (qa_N (qe_var 7 vo_law_made) (qa_N (qe_var 8 vo_law_due) qa_nil))) (qg_tup rfl (qgs_cons (qg_name (i := 9) sc_law.nd rfl lo_law_one) (qgs_cons (qg_name (i := 10) sc_law.nd rfl lo_law_told) qgs_nil))) (qss_one (qs_if (qt_w (qw_or (qt_cmp qop_notB (qe_call (G_is_recipe.mono (by omega)) hr gl_law_is_recipe T_is_recipe.m T_is_recipe.F.kp T_is_recipe.b .nil pass0 (qa_N (qe_var 9 vo_law_one) qa_nil) db_law_is_recipe) qe_bl (nomarkQ _)) (qw_or1 (qt_cmp (qop_neSame hr.units) (qe_call (G_names_in.mono (by omega)) hr gl_law_names_in T_names_in.m T_names_in.F.kp T_names_in.b .nil pass0 (qa_N (qe_var 9 vo_law_one) qa_nil) db_law_names_in) (qe_var 10 vo_law_told) (nomarkQ _))))) (qss_one (qs_ret qe_bl)) qss_nil)))
    (qss_cons (qs_for PassesOwn.never rfl (qi_list (qe_lst (qa_N (qe_var 2 vo_law_r) (qa_N (qe_var 3 vo_law_s) (qa_N (qe_var 4 vo_law_t) qa_nil))))) (qg_name (i := 11) sc_law.nd rfl lo_law_part) (qss_one (qs_if (qt_cmp qop_notB (qe_call (G_is_recipe.mono (by omega)) hr gl_law_is_recipe T_is_recipe.m T_is_recipe.F.kp T_is_recipe.b .nil pass0 (qa_N (qe_var 11 vo_law_part) qa_nil) db_law_is_recipe) qe_bl (nomarkQ _)) (qss_one (qs_ret qe_bl)) qss_nil)))
    (qss_cons (qs_set (i := 12) sc_law.nd rfl lo_law_house (qe_tup (qa_D (qe_disp (qp_cons qe_str qe_int qp_nil)) (qa_D (qe_disp (qp_cons qe_str (qe_ix qix_list (qe_var 7 vo_law_made) qe_int) (qp_cons qe_str (qe_ix qix_list (qe_var 7 vo_law_made) qe_int) (qp_cons qe_str (qe_ix qix_list (qe_var 7 vo_law_made) qe_int) qp_nil)))) qa_nil))))
    (qss_cons (qs_if (qt_w (qw_or (qt_cmp qop_notB (qe_call (G_is_house.mono (by omega)) hr gl_law_is_house T_is_house.m T_is_house.F.kp T_is_house.b .nil pass0 (qa_N (qe_var 12 vo_law_house) qa_nil) db_law_is_house) qe_bl (nomarkQ _)) (qw_or1 (qt_cmp qop_notB (qe_call (G_is_house.mono (by omega)) hr gl_law_is_house T_is_house.m T_is_house.F.kp T_is_house.b .nil pass0 (qa_T (qe_tup (qa_D (qe_disp (qp_cons qe_str qe_int qp_nil)) (qa_S (qe_ix qix_tup (qe_var 12 vo_law_house) qe_int) qa_nil))) qa_nil) db_law_is_house) qe_bl (nomarkQ _))))) (qss_one (qs_ret qe_bl)) qss_nil)
    (qss_cons (qs_set (i := 13) sc_law.nd rfl lo_law_old (qe_ix qix_list (qe_op qop_cat (qe_call (G_names_in.mono (by omega)) hr gl_law_names_in T_names_in.m T_names_in.F.kp T_names_in.b .nil pass0 (qa_S (qe_ix qix_list (qe_var 7 vo_law_made) qe_int) qa_nil) db_law_names_in) (qe_lst (qa_C qe_str qa_nil))) (qe_op qop_mod (qe_call (G_law_draw.mono (by omega)) hr gl_law__law_draw T_law_draw.m T_law_draw.F.kp T_law_draw.b .nil pass0 (qa_N (qe_var 1 vo_law_deck) (qa_C qe_int qa_nil)) db_law__law_draw) (qe_op qop_add (qe_callB qc_len_seq gl_law_len T.b_len bt_len (qa_F (qe_call (G_names_in.mono (by omega)) hr gl_law_names_in T_names_in.m T_names_in.F.kp T_names_in.b .nil pass0 (qa_S (qe_ix qix_list (qe_var 7 vo_law_made) qe_int) qa_nil) db_law_names_in) qa_nil) nn_law_len db_law_len) qe_int))))
    (qss_cons (qs_set (i := 14) sc_law.nd rfl lo_law_other (qe_call (G_law_exchanged.mono (by omega)) hr gl_law__law_exchanged T_law_exchanged.m T_law_exchanged.F.kp T_law_exchanged.b .nil pass0 (qa_S (qe_ix qix_list (qe_var 7 vo_law_made) qe_int) (qa_N (qe_var 13 vo_law_old) (qa_C qe_str qa_nil))) db_law__law_exchanged))
    (qss_cons (qs_setcomp (i := 15) rfl sc_law.nd rfl lo_law_kept (n := 1) (fr := [13]) (N := ["name", "old"]) (cs_mk (scX := defScope s_law) (NX := ["script", "deck", "r", "s", "t", "names", "rows", "made", "due", "one", "told", "part", "house", "old", "other", "kept"]) rfl rfl (by decide +kernel)) (qi_list (qe_call (G_names_in.mono (by omega)) hr gl_law_names_in T_names_in.m T_names_in.F.kp T_names_in.b .nil pass0 (qa_S (qe_ix qix_list (qe_var 7 vo_law_made) qe_int) qa_nil) db_law_names_in)) (fun _ _ _ _ _ => (qgx (i := 0) (show List.Nodup (α := Str) ["name", "old"] by decide) (locC (by decide +kernel)))) (fun _ _ _ _ _ => (qi_one (qt_cmp qop_ne (qe_var 0 (VarC.ok (by decide +kernel))) (qe_var 1 (VarC.ok (by decide +kernel))) (nomarkQ _)))) (fun _ _ _ _ _ => (qe_var 0 (VarC.ok (by decide +kernel)))) rfl)
    (qss_one (qs_ret (qe_cmp (qop_eqSame hr.units) (qe_call (G_names_in.mono (by omega)) hr gl_law_names_in T_names_in.m T_names_in.F.kp T_names_in.b .nil pass0 (qa_N (qe_var 14 vo_law_other) qa_nil) db_law_names_in) (qe_call (G_law_together.mono (by omega)) hr gl_law__law_together T_law_together.m T_law_together.F.kp T_law_together.b .nil pass0 (qa_L (qe_lst (qa_N (qe_var 15 vo_law_kept) (qa_B (qe_op qop_rep (qe_lst (qa_C qe_str qa_nil)) (qe_callTy qc_intB gl_law_int T.b_int bt_int (qa_K (qe_cmp qop_lt (qe_callB qc_len_seq gl_law_len T.b_len bt_len (qa_N (qe_var 15 vo_law_kept) qa_nil) nn_law_len db_law_len) (qe_callB qc_len_seq gl_law_len T.b_len bt_len (qa_F (qe_call (G_names_in.mono (by omega)) hr gl_law_names_in T_names_in.m T_names_in.F.kp T_names_in.b .nil pass0 (qa_S (qe_ix qix_list (qe_var 7 vo_law_made) qe_int) qa_nil) db_law_names_in) qa_nil) nn_law_len db_law_len) (nomarkQ _)) qa_nil) nn_law_int db_law_int)) qa_nil))) qa_nil) db_law__law_together) (nomarkQ _)))))))))))))))))), ?_⟩
  walk_at "vs"
  intro d c H1 s1 hd hc D1
  walk_at "vs"
  intro Dd hDd
  have hDn : Dd ∉ [d, c] := D1.fresh hDd
  refine comp_range (fun i σ' H' => Wr ((∃ t, σ' = t :: [some (.ref d)]) ∧ DeckAt H' d c ∧ ∃ (as : List Addr) (rs : List R), H' Dd = some (.lst (as.map V.ref)) ∧ as.length = i ∧ IsRq H' as rs ∧ ∀ r ∈ rs, r.Good ∧ r.depth ≤ 6 ∧ r.nodes ≤ 20)) ?_ ?_ ?_
  · exact .mk ⟨⟨none, rfl⟩, D1.upd _ hDn, [], [], upd_same, rfl, .nil, fun r hr => by simp at hr⟩
  · intro i σ' H2 hi hP
    obtain ⟨⟨t, rfl⟩, D2, as, rs, ed, hal, hrs, hgd⟩ := hP.h
    clear hP
    walk_at "vs"
    intro n H3 a1 a2 b3 D3
    have ed3 := b3 Dd _ hDn ed
    have hrs3 := hrs.tups (D2.tups b3)
    walk_at "vs"
    intro l hl
    have D4 := D3.same (same_new (.lst [V.int 10]) hl)
    have hfr := D3.fresh hl
    have ld : l ≠ d := fun z => hfr (by simp [z])
    have lc : l ≠ c := fun z => hfr (by simp [z])
    have lD : Dd ≠ l := ne_of_none ed3 hl
    have hl' : upd H3 l (.lst [V.int 10]) l = some (.lst [V.int 10]) := upd_same
    have ed4 := same_new (.lst [V.int 10]) hl _ _ ed3
    have hrs4 := hrs3.same (same_new (.lst [V.int 10]) hl)
    walk_at "vs"
    intro x r k' H5 g5 d5 z5 b5 D5 hl5 R5
    obtain ⟨z1, z2, z3⟩ := z5
    have z2' := z2 (by decide)
    have hnd : r.nodes ≤ 20 := by omega
    have ed5 : H5 Dd = some (.lst (as.map V.ref)) := b5 Dd _ (by
      intro z
      rcases List.mem_cons.mp z with y | z
      · exact hDn (by simp [y])
      · rcases List.mem_cons.mp z with y | z
        · exact hDn (by simp [y])
        · exact lD (List.mem_singleton.mp z)) ed4
    have hrs5 := hrs4.tups (deck_tups D4 hl' b5)
    have hz : (as.map V.ref).length < sizeLine := by rw [List.length_map, hal, sizeLine_eq]; omega
    walk_at "vs"
    have tz := tups_set (.lst (as.map V.ref ++ [V.ref x])) ed5
    refine .mk ⟨⟨_, rfl⟩, D5.upd _ hDn, as ++ [x], rs ++ [r], by rw [upd_same, List.map_append]; rfl, by simp [hal], (hrs5.tups tz).app (.cons (R5.tups tz) .nil), fun r' hr' => ?_⟩
    rcases List.mem_append.mp hr' with y | y
    · exact hgd r' y
    · rw [List.mem_singleton.mp y]; exact ⟨g5, d5, hnd⟩
  intro σ' H2 hP
  obtain ⟨_, D2, as, rs, ed, hal, hrs, hgd⟩ := hP.h
  clear hP
  match as, rs, hrs, hal with
  | [xr, xs, xt], [r, s', t'], .cons R1 (.cons R2 (.cons R3 .nil)), _ =>
    have G1 := hgd r (by simp)
    have G2 := hgd s' (by simp)
    have G3 := hgd t' (by simp)
    have RR : IsRq H2 [xr, xs, xt] [r, s', t'] := .cons R1 (.cons R2 (.cons R3 .nil))
    walk_at "vs"
    clear R1 R2 R3
    intro n2 H3 e1 e2 b3 D3
    have RR3 := RR.tups (D2.tups b3)
    walk_at "vs"
    intro De hDe
    have hEn : De ∉ [d, c] := D3.fresh hDe
    refine comp_range (fun i σ' H' => Wr ((∃ t, σ' = t :: [some (.ref d)]) ∧ DeckAt H' d c ∧ IsRq H' [xr, xs, xt] [r, s', t'] ∧ ∃ ts : List Str, H' De = some (.lst (ts.map V.str)) ∧ ts.length = i ∧ ∀ x ∈ ts, GName x)) ?_ ?_ ?_
    · exact .mk ⟨⟨none, rfl⟩, D3.upd _ hEn, RR3.same (same_new _ hDe), [], upd_same, rfl, fun x hx => by simp at hx⟩
    · intro i σ' H4 hi hP
      obtain ⟨⟨t, rfl⟩, D4, RR4, ts, ed, hal, hgt⟩ := hP.h
      clear hP
      walk_at "vs"
      intro x H5 gx b5 D5
      have ed5 := b5 De _ hEn ed
      have RR5 := RR4.tups (D4.tups b5)
      have hz : (ts.map V.str).length < sizeLine := by rw [List.length_map, hal, sizeLine_eq]; omega
      walk_at "vs"
      refine .mk ⟨⟨_, rfl⟩, D5.upd _ hEn, RR5.tups (tups_set _ ed5), ts ++ [x], by rw [upd_same, List.map_append]; rfl, by simp [hal], fun y hy => ?_⟩
      rcases List.mem_append.mp hy with z | z
      · exact hgt y z
      · rw [List.mem_singleton.mp z]; exact gx
    intro σ' H4 hP
    obtain ⟨_, D4, RR4, ts, ed4, hal, hgt⟩ := hP.h
    clear hP RR3 RR D3 b3
    walk_at "vs"
    intro pn hpn
    have s5 := same_new (.tup (ts.map V.str)) hpn
    have D5 := D4.same s5
    have RR5 := RR4.same s5
    have epn : upd H4 pn (.tup (ts.map V.str)) pn = some (.tup (ts.map V.str)) := upd_same
    generalize upd H4 pn (.tup (ts.map V.str)) = H5 at *
    have nm1 : r.names.length ≤ 180 := by have := names_le G1.1; omega
    have nm2 : s'.names.length ≤ 180 := by have := names_le G2.1; omega
    have nm3 : t'.names.length ≤ 180 := by have := names_le G3.1; omega
    have nd1 : r.nodes ≤ 20 := G1.2.2
    have nd2 : s'.nodes ≤ 20 := G2.2.2
    have nd3 : t'.nodes ≤ 20 := G3.2.2
    obtain ⟨t0, ts', rfl⟩ : ∃ t0 ts', ts = t0 :: ts' := by
      cases ts with
      | nil => simp at hal; omega
      | cons t0 ts' => exact ⟨t0, ts', rfl⟩
    have hts9 : (t0 :: ts').length ≤ 9 := by omega
    have hat0 : atI ((t0 :: ts').map V.str) 0 = some (.str t0) := atI_nat (j := 0) rfl
    have R51 : IsR H5 xr r := by cases RR5 with | cons h _ => exact h
    walk_at "vs"
    clear R51
    intro q1 u1 H6 s6 hq1 eq1 du1
    have RR6 := RR5.same s6
    have R62 : IsR H6 xs s' := by cases RR6 with | cons _ t => cases t with | cons h _ => exact h
    walk_at "vs"
    clear R62
    intro q2 u2 H7 s7 hq2 eq2 du2
    have RR7 := RR6.same s7
    have R73 : IsR H7 xt t' := by cases RR7 with | cons _ t => cases t with | cons _ t => cases t with | cons h _ => exact h
    walk_at "vs"
    clear R73
    intro q3 u3 H8 s8 hq3 eq3 du3
    have RR8 := RR7.same s8
    have eq2 := s8 _ _ eq2
    have eq1 := s8 _ _ (s7 _ _ eq1)
    have epn := s8 _ _ (s7 _ _ (s6 _ _ epn))
    have D8 := ((D5.same s6).same s7).same s8
    clear RR7 RR6 RR5 D5 s6 s7 s8 hq1 hq2 hq3 RR4 D4 ed4 s5
    walk_at "vs"
    intro pr hpr
    have s9 := same_new (.lst [V.ref q1, V.ref q2, V.ref q3]) hpr
    have epr : upd H8 pr (.lst [V.ref q1, V.ref q2, V.ref q3]) pr = some (.lst [V.ref q1, V.ref q2, V.ref q3]) := upd_same
    have RR9 := RR8.same s9
    have eq1 := s9 _ _ eq1
    have eq2 := s9 _ _ eq2
    have eq3 := s9 _ _ eq3
    have epn := s9 _ _ epn
    have D9 := D8.same s9
    generalize upd H8 pr (.lst [V.ref q1, V.ref q2, V.ref q3]) = H9 at *
    clear RR8 D8 s9 hpr
    walk_at "vs"
    intro pw hpw
    have sA := same_new (.lst [V.str "plus", V.str "minus", V.str "times", V.str "most"]) hpw
    have epw : upd H9 pw (.lst [V.str "plus", V.str "minus", V.str "times", V.str "most"]) pw = some (.lst ([Op.plus, Op.minus, Op.times, Op.most].map fun o => V.str o.word)) := upd_same
    have RRA := RR9.same sA
    have eq1 := sA _ _ eq1
    have eq2 := sA _ _ eq2
    have eq3 := sA _ _ eq3
    have epn := sA _ _ epn
    have epr := sA _ _ epr
    have DA := D9.same sA
    generalize upd H9 pw (.lst [V.str "plus", V.str "minus", V.str "times", V.str "most"]) = HA at *
    clear RR9 D9 sA hpw
    walk_at "vs"
    intro Dm hDm
    refine comp_list (xs := [Op.plus, Op.minus, Op.times, Op.most].map fun o => V.str o.word) (fun i σ' H' => Wr ((∃ t, σ' = t :: [some (.ref xr), some (.ref xs)]) ∧ Same HA H' ∧ ∃ ms : List Addr, H' Dm = some (.lst (ms.map V.ref)) ∧ ms.length = i ∧ IsRq H' ms (([Op.plus, Op.minus, Op.times, Op.most].take i).map fun o => R.bin o r s'))) ?_ ?_ ?_ ?_
    · exact .mk ⟨⟨none, rfl⟩, same_new _ hDm, [], upd_same, rfl, .nil⟩
    · intro i σ' H' _ hP
      exact SqL.of (hP.h.2.1 _ _ epw)
    · intro i x σ' H' hx hP
      obtain ⟨⟨t, rfl⟩, sc, ms, ed, hml, hms⟩ := hP.h
      clear hP
      obtain ⟨o, ho, rfl⟩ : ∃ o, [Op.plus, Op.minus, Op.times, Op.most][i]? = some o ∧ x = V.str o.word := by
        rw [List.getElem?_map] at hx
        cases hj : [Op.plus, Op.minus, Op.times, Op.most][i]? with
        | none => rw [hj] at hx; cases hx
        | some o => rw [hj] at hx; exact ⟨o, rfl, by simpa using hx.symm⟩
      have hi4 : i < 4 := (List.getElem?_eq_some_iff.mp ho).1
      have hz : (ms.map V.ref).length < sizeLine := by rw [List.length_map, hml, sizeLine_eq]; omega
      walk_at "vs"
      intro p1 hp1
      have sp := same_new (.tup [V.str o.word, V.ref xr, V.ref xs]) hp1
      have ed1 := sp _ _ ed
      have hb : IsR (upd H' p1 (.tup [V.str o.word, V.ref xr, V.ref xs])) p1 (.bin o r s') := by
        have RX := (RRA.same sc).same sp
        cases RX with | cons k1 t => cases t with | cons k2 _ => exact .bin upd_same k1 k2
      walk_at "vs"
      have tz := tups_set (.lst (ms.map V.ref ++ [V.ref p1])) ed1
      refine .mk ⟨⟨_, rfl⟩, same_updN _ hDm (sc.trans sp), ms ++ [p1], by rw [upd_same, List.map_append]; rfl, by simp [hml], ?_⟩
      rw [List.take_succ, ho, List.map_append]
      exact ((hms.same sp).tups tz).app (.cons (hb.tups tz) .nil)
    intro σ' HB hP
    obtain ⟨_, sB, ms, edm, hml, hms⟩ := hP.h
    clear hP
    have RRB := RRA.same sB
    have eq1 := sB _ _ eq1
    have eq2 := sB _ _ eq2
    have eq3 := sB _ _ eq3
    have epn := sB _ _ epn
    have epr := sB _ _ epr
    have DB := DA.same sB
    clear RRA DA sB epw hDm
    walk_at "vs"
    intro p5 hp5
    have s5 := same_new (.tup [V.str "pick", V.ref xr, V.ref xs, V.ref xt]) hp5
    have e5 : upd HB p5 (.tup [V.str "pick", V.ref xr, V.ref xs, V.ref xt]) p5 = some (.tup [V.str "pick", V.ref xr, V.ref xs, V.ref xt]) := upd_same
    have sB5 : Same HB (upd HB p5 (.tup [V.str "pick", V.ref xr, V.ref xs, V.ref xt])) := s5
    generalize upd HB p5 (.tup [V.str "pick", V.ref xr, V.ref xs, V.ref xt]) = HB1 at *
    walk_at "vs"
    intro p6 hp6
    have s6 := same_new (.tup [V.str "choose", V.ref xr, V.ref pn]) hp6
    have e6 : upd HB1 p6 (.tup [V.str "choose", V.ref xr, V.ref pn]) p6 = some (.tup [V.str "choose", V.ref xr, V.ref pn]) := upd_same
    have e5 := s6 _ _ e5
    have sB6 := sB5.trans s6
    generalize upd HB1 p6 (.tup [V.str "choose", V.ref xr, V.ref pn]) = HB2 at *
    walk_at "vs"
    intro p7 hp7
    have s7 := same_new (.lst [V.ref p5, V.ref p6]) hp7
    have e7 : upd HB2 p7 (.lst [V.ref p5, V.ref p6]) p7 = some (.lst [V.ref p5, V.ref p6]) := upd_same
    have e5 := s7 _ _ e5
    have e6 := s7 _ _ e6
    have sB7 := sB6.trans s7
    generalize upd HB2 p7 (.lst [V.ref p5, V.ref p6]) = HC at *
    have RRC := RRB.same sB7
    have eq1 := sB7 _ _ eq1
    have eq2 := sB7 _ _ eq2
    have eq3 := sB7 _ _ eq3
    have epn := sB7 _ _ epn
    have epr := sB7 _ _ epr
    have edm := sB7 _ _ edm
    have DC := DB.same sB7
    have hmsC := hms.same sB7
    clear RRB DB hms hp7 hp6 hp5 s5 s6 s7 sB5 sB6 sB7
    have hml4 : ms.length = 4 := hml
    have hz8 : (ms.map V.ref).length + [V.ref p5, V.ref p6].length ≤ sizeLine := by rw [List.length_map, hml4, sizeLine_eq]; exact Nat.le_of_ble_eq_true rfl
    walk_at "vs"
    intro p8 hp8
    have s8 := same_new (.lst (ms.map V.ref ++ [V.ref p5, V.ref p6])) hp8
    have e8 : upd HC p8 (.lst (ms.map V.ref ++ [V.ref p5, V.ref p6])) p8 = some (.lst (ms.map V.ref ++ [V.ref p5, V.ref p6])) := upd_same
    have epn8 := s8 _ _ epn
    generalize upd HC p8 (.lst (ms.map V.ref ++ [V.ref p5, V.ref p6])) = HD at *
    walk_at "vs"
    intro p9 hp9
    have s9 := same_new (.tup [V.str "read", V.str t0]) hp9
    have e9 : upd HD p9 (.tup [V.str "read", V.str t0]) p9 = some (.tup [V.str "read", V.str t0]) := upd_same
    have e89 := s9 _ _ e8
    have sCE := s8.trans s9
    have n98 : p9 ≠ p8 := fun z => by rw [z, e8] at hp9; cases hp9
    generalize upd HD p9 (.tup [V.str "read", V.str t0]) = HE at *
    have hz9 : (ms.map V.ref ++ [V.ref p5, V.ref p6]).length < sizeLine := by rw [List.length_append, List.length_map, hml4, sizeLine_eq]; exact Nat.le_of_ble_eq_true rfl
    have sF : Same HC (upd HE p8 (.lst (ms.map V.ref ++ [V.ref p5, V.ref p6] ++ [V.ref p9]))) := same_updN _ hp8 sCE
    have e8F : upd HE p8 (.lst (ms.map V.ref ++ [V.ref p5, V.ref p6] ++ [V.ref p9])) p8 = some (.lst ((ms ++ [p5, p6, p9]).map V.ref)) := by rw [upd_same]; simp
    have e9F : upd HE p8 (.lst (ms.map V.ref ++ [V.ref p5, V.ref p6] ++ [V.ref p9])) p9 = some (.tup [V.str "read", V.str t0]) := by rw [upd_ne n98]; exact e9
    have eprF := sF _ _ epr
    walk_at "vs"
    generalize upd HE p8 (.lst (ms.map V.ref ++ [V.ref p5, V.ref p6] ++ [V.ref p9])) = HF at *
    have RRF := RRC.same sF
    have DF := DC.same sF
    have hmsF : IsRq HF (ms ++ [p5, p6, p9]) (([Op.plus, Op.minus, Op.times, Op.most].map fun o => R.bin o r s') ++ [.pick r s' t', .cho r (t0 :: ts'), .rd t0]) := by
      refine (hmsC.same sF).app ?_
      cases RRF with | cons k1 t => cases t with | cons k2 t => cases t with | cons k3 _ => exact .cons (.pick (sF _ _ e5) k1 k2 k3) (.cons (.cho (sF _ _ e6) k1 (sF _ _ epn)) (.cons (.rd e9F) .nil))
    have F : Fx HF d c xr xs xt pn pr p8 q1 q2 q3 r s' t' (t0 :: ts') u1 u2 u3 (ms ++ [p5, p6, p9]) (mrsOf r s' t' (t0 :: ts') t0) :=
      ⟨RRF, sF _ _ eq1, sF _ _ eq2, sF _ _ eq3, sF _ _ epn, sF _ _ epr, e8F, hmsF, DF⟩
    clear RRC DC hmsC hp8 hp9 e5 e6 e7 e8 e89 e9 e9F s8 s9 sCE n98 epn8 edm eprF sF RRF DF hmsF e8F eq1 eq2 eq3 epn epr
    have l1 := due_len du1
    have l2 := due_len du2
    have l3 := due_len du3
    intro pa hpa
    have sa := same_new (.lst [V.ref q1, V.ref q2]) hpa
    have epa : upd HF pa (.lst [V.ref q1, V.ref q2]) pa = some (.lst [V.ref q1, V.ref q2]) := upd_same
    have F1 := F.same sa
    change tNil _ (upd HF pa (.lst [V.ref q1, V.ref q2])) _
    generalize upd HF pa (.lst [V.ref q1, V.ref q2]) = HG at *
    clear F sa hpa
    have rw1 : Rows HG [.ref q1, .ref q2] [u1, u2] := .cons ⟨q1, rfl, .inl F1.e1⟩ (.cons ⟨q2, rfl, .inl F1.e2⟩ .nil)
    have lw1 : [u1, u2].flatten.length ≤ 2000 := by simp; omega
    walk_at "vs"
    intro pt1 ds1 HH sh hpt1 et1 dd1
    have F2 := F1.same sh
    clear F1 rw1 lw1 epa sh hpt1
    walk_at "vs"
    intro pl1 hpl1
    have sa := same_new (.lst [V.ref pt1]) hpl1
    have epl : upd HH pl1 (.lst [V.ref pt1]) pl1 = some (.lst [V.ref pt1]) := upd_same
    have F3 := F2.same sa
    have et1 := sa _ _ et1
    generalize upd HH pl1 (.lst [V.ref pt1]) = HI at *
    clear F2 sa hpl1
    walk_at "vs"
    intro pl2 hpl2
    have sa := same_new (.lst ([pt1, pt1, pt1, pt1].map V.ref)) hpl2
    have epl2 : upd HI pl2 (.lst ([pt1, pt1, pt1, pt1].map V.ref)) pl2 = some (.lst ([pt1, pt1, pt1, pt1].map V.ref)) := upd_same
    have F4 := F3.same sa
    have et1 := sa _ _ et1
    change tLst _ _ (upd HI pl2 (.lst ([pt1, pt1, pt1, pt1].map V.ref))) _
    generalize upd HI pl2 (.lst ([pt1, pt1, pt1, pt1].map V.ref)) = HJ at *
    clear F3 sa hpl2 epl
    have er := F4.er
    have rw2 : Rows HJ [.ref q1, .ref q2, .ref q3] [u1, u2, u3] := .cons ⟨q1, rfl, .inl F4.e1⟩ (.cons ⟨q2, rfl, .inl F4.e2⟩ (.cons ⟨q3, rfl, .inl F4.e3⟩ .nil))
    have lw2 : [u1, u2, u3].flatten.length ≤ 2000 := by simp; omega
    walk_at "vs"
    intro pt2 ds2 HK sh hpt2 et2 dd2
    have F5 := F4.same sh
    have et1 := sh _ _ et1
    have epl2 := sh _ _ epl2
    clear F4 rw2 lw2 sh hpt2 er
    have er := F5.er
    walk_at "vs"
    intro pl3 hpl3
    have sa := same_new (.lst [V.ref q1, V.ref pn]) hpl3
    have epl3 : upd HK pl3 (.lst [V.ref q1, V.ref pn]) pl3 = some (.lst [V.ref q1, V.ref pn]) := upd_same
    have F6 := F5.same sa
    have et1 := sa _ _ et1
    have et2 := sa _ _ et2
    have epl2 := sa _ _ epl2
    generalize upd HK pl3 (.lst [V.ref q1, V.ref pn]) = HL at *
    clear F5 sa hpl3 er
    have rw3 : Rows HL [.ref q1, .ref pn] [u1, t0 :: ts'] := .cons ⟨q1, rfl, .inl F6.e1⟩ (.cons ⟨pn, rfl, .inr F6.en⟩ .nil)
    have lw3 : [u1, t0 :: ts'].flatten.length ≤ 2000 := by
      rw [List.flatten_cons, List.flatten_cons, List.flatten_nil, List.append_nil, List.length_append]; omega
    walk_at "vs"
    intro pt3 ds3 HM sh hpt3 et3 dd3
    have F7 := F6.same sh
    have et1 := sh _ _ et1
    have et2 := sh _ _ et2
    have epl2 := sh _ _ epl2
    clear F6 rw3 lw3 sh hpt3 epl3
    have en := F7.en
    walk_at "vs"
    intro pl4 hpl4
    have sa := same_new (.lst ([t0].map V.str)) hpl4
    have et4 : upd HM pl4 (.lst ([t0].map V.str)) pl4 = some (.lst ([t0].map V.str)) := upd_same
    have F8 := F7.same sa
    have et1 := sa _ _ et1
    have et2 := sa _ _ et2
    have et3 := sa _ _ et3
    have epl2 := sa _ _ epl2
    change tNil _ (upd HM pl4 (.lst ([t0].map V.str))) _
    generalize upd HM pl4 (.lst ([t0].map V.str)) = HN at *
    clear F7 sa hpl4 en
    walk_at "vs"
    intro pl5 hpl5
    have sa := same_new (.lst ([pt2, pt3, pl4].map V.ref)) hpl5
    have e5 : upd HN pl5 (.lst ([pt2, pt3, pl4].map V.ref)) pl5 = some (.lst ([pt2, pt3, pl4].map V.ref)) := upd_same
    have F9 := F8.same sa
    have et1 := sa _ _ et1
    have et2 := sa _ _ et2
    have et3 := sa _ _ et3
    have et4 := sa _ _ et4
    have epl2 := sa _ _ epl2
    change rCat _ _ (upd HN pl5 (.lst ([pt2, pt3, pl4].map V.ref))) _
    generalize upd HN pl5 (.lst ([pt2, pt3, pl4].map V.ref)) = HO' at *
    clear F8 sa hpl5
    have hz : ([pt1, pt1, pt1, pt1].map V.ref).length + ([pt2, pt3, pl4].map V.ref).length ≤ sizeLine := by rw [sizeLine_eq]; exact Nat.le_of_ble_eq_true rfl
    walk_at "vs"
    intro pd hpd
    have sa := same_new (.lst ([pt1, pt1, pt1, pt1, pt2, pt3, pl4].map V.ref)) hpd
    have epd : upd HO' pd (.lst ([pt1, pt1, pt1, pt1, pt2, pt3, pl4].map V.ref)) pd = some (.lst ([pt1, pt1, pt1, pt1, pt2, pt3, pl4].map V.ref)) := upd_same
    have F10 := F9.same sa
    have LS := (Lsts.cons et1 (.cons et1 (.cons et1 (.cons et1 (.cons et2 (.cons et3 (.cons et4 .nil))))))).same sa
    have em := F10.em
    have hok := rok5 (ts := t0 :: ts') (t0 := t0) G1 G2 G3 ⟨by simp, hts9, hgt⟩ (hgt t0 List.mem_cons_self)
    have hdue := due7 (t0 := t0) du1 du2 du3 dd1 dd2 dd3
    walk_at "vs"
    change ∃ W : Nat → Nat → L2.St → Hp → Prop, (∃ m, W 0 m _ (upd HO' pd (.lst ([pt1, pt1, pt1, pt1, pt2, pt3, pl4].map V.ref)))) ∧ _
    generalize upd HO' pd (.lst ([pt1, pt1, pt1, pt1, pt2, pt3, pl4].map V.ref)) = HP at *
    clear F9 sa hpd et1 et2 et3 et4 epl2 e5 hz dd1 dd2 dd3
    have hl7 : ((ms ++ [p5, p6, p9]).map V.ref).length = ([pt1, pt1, pt1, pt1, pt2, pt3, pl4].map V.ref).length := by
      rw [List.length_map, List.length_append, hml4]; rfl
    refine for_zip (xs := (ms ++ [p5, p6, p9]).map V.ref) (ys := [pt1, pt1, pt1, pt1, pt2, pt3, pl4].map V.ref) (fun i σ H' => Wr ((∃ t9 t10, σ = [some (.ref a), some (.ref d), some (.ref xr), some (.ref xs), some (.ref xt), some (.ref pn), some (.ref pr), some (.ref p8), some (.ref pd), t9, t10, none, none, none, none, none]) ∧ Same HP H')) hl7 ?_ ?_ ?_ ?_
    · exact .mk ⟨⟨none, none, rfl⟩, Same.refl _⟩
    · intro i σ H' _ hP
      exact ⟨SqL.of (hP.h.2 _ _ em), SqL.of (hP.h.2 _ _ epd)⟩
    · intro i x y T' σ H' hx hy hT hP
      obtain ⟨⟨t9, t10, rfl⟩, sc⟩ := hP.h
      clear hP
      obtain ⟨m, R0, rfl, hR0, hm⟩ := F10.mm.at hx
      obtain ⟨b, ns', rfl, hns', hb⟩ := LS.at hy
      have hd0 := hdue i R0 ns' hR0 hns'
      obtain ⟨o1, o2, o3, o4⟩ := hok R0 (List.mem_of_getElem? hR0)
      have sx := same_new (.tup [V.ref m, V.ref b]) hT
      have hm1 := (hm.same sc).same sx
      have hb1 := sx _ _ (sc _ _ hb)
      have eT : upd H' T' (.tup [V.ref m, V.ref b]) T' = some (.tup [V.ref m, V.ref b]) := upd_same
      have sc1 := sc.trans sx
      generalize upd H' T' (.tup [V.ref m, V.ref b]) = H1' at *
      have ht := hm1.isTh (K := K)
      have hsh := (R0.asc o1).short
      walk_at "vs"
      intro H2' s2'
      have hsz : decide (szN 8 R0.toTh ≤ 100) = true := decide_eq_true (by
        have e := szR_nodes 8 R0 o1 o2
        have e' : szR 8 R0 = szN 8 R0.toTh := rfl
        omega)
      rw [hsz]
      have hm2 := hm1.same s2'
      have o3' : R0.nodes ≤ 1000 := by omega
      clear ht hsh
      walk_at "vs"
      intro pz uz H3' s3' hpz ez dz
      have huz : uz = ns' := dz.eq hd0 fun _ => Iff.rfl
      subst huz
      have hgn : ∀ y ∈ uz, GName y := fun y hy => good_names o1 y ((hd0.2 y).mp hy)
      have hsh2 := shaped_nm2 hgn
      have hb3 := s3' _ _ (s2' _ _ hb1)
      have dv1 : DatV K H3' (.ref pz) (.list (uz.map PyData.str)) := .lst (SqL.of ez) (datVs_strs uz)
      have dv2 : DatV K H3' (.ref b) (.list (uz.map PyData.str)) := .lst (SqL.of hb3) (datVs_strs uz)
      walk_at "vs"
      exact .mk ⟨⟨_, _, rfl⟩, sc1.trans (s2'.trans s3')⟩
    intro σ HQ hP
    obtain ⟨⟨t9, t10, rfl⟩, sc⟩ := hP.h
    clear hP
    have F11 := F10.same sc
    clear F10 LS hdue epd em hl7 sc
    obtain ⟨m0, m1, m2, m3, rfl⟩ : ∃ m0 m1 m2 m3, ms = [m0, m1, m2, m3] := by
      match ms, hml4 with
      | [m0, m1, m2, m3], _ => exact ⟨m0, m1, m2, m3, rfl⟩
    walk_at "vs"
    intro pp hpp
    have sa := same_new (.lst ([xr, xs, xt].map V.ref)) hpp
    have epp : upd HQ pp (.lst ([xr, xs, xt].map V.ref)) pp = some (.lst ([xr, xs, xt].map V.ref)) := upd_same
    have F12 := F11.same sa
    change ∃ a_2, V.ref pp = V.ref a_2 ∧ (∃ ys, SqL _ (upd HQ pp (.lst ([xr, xs, xt].map V.ref))) a_2 ys) ∧ _
    walk_at "vs"
    change ∃ W : Nat → Nat → L2.St → Hp → Prop, (∃ m, W 0 m _ (upd HQ pp (.lst ([xr, xs, xt].map V.ref)))) ∧ _
    generalize upd HQ pp (.lst ([xr, xs, xt].map V.ref)) = HR at *
    clear F11 sa hpp
    refine for_list (xs := [xr, xs, xt].map V.ref) (fun i σ H' => Wr ((∃ t11, σ = [some (.ref a), some (.ref d), some (.ref xr), some (.ref xs), some (.ref xt), some (.ref pn), some (.ref pr), some (.ref p8), some (.ref pd), t9, t10, t11, none, none, none, none]) ∧ Same HR H')) ?_ ?_ ?_ ?_
    · exact .mk ⟨⟨none, rfl⟩, Same.refl _⟩
    · intro i σ H' _ hP
      exact SqL.of (hP.h.2 _ _ epp)
    · intro i x σ H' hx hP
      obtain ⟨⟨t11, rfl⟩, sc⟩ := hP.h
      clear hP
      obtain ⟨m, R0, rfl, hR0, hm⟩ := F12.rr.at hx
      obtain ⟨o1, o2, o3⟩ : R0.Good ∧ R0.depth ≤ 6 ∧ R0.nodes ≤ 20 := hgd R0 (List.mem_of_getElem? hR0)
      have hm1 := hm.same sc
      have ht := hm1.isTh (K := K)
      have hsh := (R0.asc o1).short
      walk_at "vs"
      intro H2' s2'
      have hsz : decide (szN 8 R0.toTh ≤ 100) = true := decide_eq_true (by
        have e := szR_nodes 8 R0 o1 (by omega)
        have e' : szR 8 R0 = szN 8 R0.toTh := rfl
        omega)
      rw [hsz]
      walk_at "vs"
      exact .mk ⟨⟨_, rfl⟩, sc.trans s2'⟩
    intro σ HS hP
    obtain ⟨⟨t11, rfl⟩, sc⟩ := hP.h
    clear hP
    have F13 := F12.same sc
    clear F12 sc epp
    have em := F13.em
    intro pg hpg
    refine And.intro upd_same (Exists.intro [(Sum.inr "given", V.int 5)] (And.intro rfl (And.intro (show 1 ≤ 15 by decide) ?_)))
    have sg := same_updN (.dK (mergeK [] [((Sum.inr "given" : Key), V.int 5)])) hpg (same_new (.dK []) hpg)
    have eg : upd (upd HS pg (.dK [])) pg (.dK (mergeK [] [((Sum.inr "given" : Key), V.int 5)])) pg = some (.dK [((Sum.inr "given" : Key), V.int 5)]) := by rw [upd_same]; rfl
    generalize upd (upd HS pg (.dK [])) pg (.dK (mergeK [] [((Sum.inr "given" : Key), V.int 5)])) = HT' at *
    clear em
    intro pc hpc
    have hpcS : HS pc = none := sg.free hpc
    have gc : pg ≠ pc := ne_of_none eg hpc
    have sb := same_new (.dK []) hpc
    have em := (F13.same (sg.trans sb)).em
    have hpc' : upd HT' pc (.dK []) pc = some (.dK []) := upd_same
    walk_at "vs"
    refine Exists.intro [(Sum.inr "p", V.ref m0), (Sum.inr "q", V.ref p5), (Sum.inr "r", V.ref p6)] (And.intro rfl (And.intro (show 3 ≤ 15 by decide) ?_))
    rw [merge3 (x := "p") (y := "q") (z := "r") _ _ _ (by decide) (by decide) (by decide)]
    have sc := same_updN (.dK [((Sum.inr "p" : Key), V.ref m0), (Sum.inr "q", V.ref p5), (Sum.inr "r", V.ref p6)]) hpc sb
    have ec : upd (upd HT' pc (.dK [])) pc (.dK [((Sum.inr "p" : Key), V.ref m0), (Sum.inr "q", V.ref p5), (Sum.inr "r", V.ref p6)]) pc = some (.dK [((Sum.inr "p" : Key), V.ref m0), (Sum.inr "q", V.ref p5), (Sum.inr "r", V.ref p6)]) := upd_same
    have eg := sc _ _ eg
    have sS := sg.trans sc
    generalize upd (upd HT' pc (.dK [])) pc (.dK [((Sum.inr "p" : Key), V.ref m0), (Sum.inr "q", V.ref p5), (Sum.inr "r", V.ref p6)]) = HU at *
    clear em sb hpc' sg sc
    walk_at "vs"
    intro ph hph
    have sh := same_new (.tup [V.ref pg, V.ref pc]) hph
    have np1 : pg ≠ ph := ne_of_none eg hph
    have np2 : pc ≠ ph := ne_of_none ec hph
    have eh : upd HU ph (.tup [V.ref pg, V.ref pc]) ph = some (.tup [V.ref pg, V.ref pc]) := upd_same
    have eg := sh _ _ eg
    have ec := sh _ _ ec
    have sS := sS.trans sh
    generalize upd HU ph (.tup [V.ref pg, V.ref pc]) = HV at *
    clear hph sh
    have F14 := F13.same sS
    have rdg : Rd HV pg (.dK [((Sum.inr "given" : Key), V.int 5)]) := .inl eg
    have rdc : Rd HV pc (.dK [((Sum.inr "p" : Key), V.ref m0), (Sum.inr "q", V.ref p5), (Sum.inr "r", V.ref p6)]) := .inl ec
    have hkg : GoodN [((Sum.inr "given" : Key), V.int 5)] := fun p hp => ⟨"given", 5, List.mem_singleton.mp hp, by decide +kernel⟩
    have hkr : ∀ H', Same HS H' → GoodH H' [((Sum.inr "p" : Key), V.ref m0), (Sum.inr "q", V.ref p5), (Sum.inr "r", V.ref p6)] := fun H' z => by
      have k := (F13.same z).mm
      have kk : ∀ R ∈ mrsOf r s' t' (t0 :: ts') t0, R.Good ∧ R.nodes ≤ 100 ∧ R.depth ≤ 8 := fun R hR => by obtain ⟨o1, o2, o3, _⟩ := hok R hR; exact ⟨o1, by omega, o2⟩
      obtain ⟨a0, r0, e0, f0, i0⟩ := k.at (i := 0) (x := V.ref m0) rfl
      obtain ⟨a4, r4, e4, f4, i4⟩ := k.at (i := 4) (x := V.ref p5) rfl
      obtain ⟨a5, r5, e5, f5, i5⟩ := k.at (i := 5) (x := V.ref p6) rfl
      cases e0; cases e4; cases e5
      have g0 := kk r0 (List.mem_of_getElem? f0)
      have g4 := kk r4 (List.mem_of_getElem? f4)
      have g5 := kk r5 (List.mem_of_getElem? f5)
      intro p hp
      rcases List.mem_cons.mp hp with rfl | hp
      · exact ⟨"p", m0, r0, rfl, by decide +kernel, i0, g0.1, g0.2.1, g0.2.2⟩
      · rcases List.mem_cons.mp hp with rfl | hp
        · exact ⟨"q", p5, r4, rfl, by decide +kernel, i4, g4.1, g4.2.1, g4.2.2⟩
        · rw [List.mem_singleton.mp hp]
          exact ⟨"r", p6, r5, rfl, by decide +kernel, i5, g5.1, g5.2.1, g5.2.2⟩
    have hkrV := hkr HV sS
    walk_at "vs"
    intro HW bW rg rc
    have hall1 : ([((Sum.inr "p" : Key), V.ref m0), (Sum.inr "q", V.ref p5), (Sum.inr "r", V.ref p6)].all fun p => !([((Sum.inr "given" : Key), V.int 5)].any fun q => decide (q.1 = p.1))) = true := by
      have n1 : ("given" : Str) ≠ "p" := by decide
      have n2 : ("given" : Str) ≠ "q" := by decide
      have n3 : ("given" : Str) ≠ "r" := by decide
      simp [n1, n2, n3]
    rw [hall1]
    have sW : Same HS HW := but_same sS bW fun p hp => by
      rcases List.mem_cons.mp hp with rfl | hp
      · exact hpg
      · rw [List.mem_singleton.mp hp]; exact hpcS
    have ehW : HW ph = some (.tup [V.ref pg, V.ref pc]) := bW _ _ (by simp [np1.symm, np2.symm]) eh
    clear hall1 hkrV F14 rdg rdc eg ec bW rg sS eh
    walk_at "vs"
    refine itB_f rfl ?_
    intro pg2 hpg2
    refine And.intro upd_same (Exists.intro [(Sum.inr "q", V.int 5)] (And.intro rfl (And.intro (show 1 ≤ 15 by decide) ?_)))
    have hpg2S : HS pg2 = none := sW.free hpg2
    have gc2 : pg2 ≠ pc := fun z => by
      rw [z] at hpg2
      rcases rc with y | ⟨_, y⟩ <;> (rw [hpg2] at y; cases y)
    have sg := same_updN (.dK (mergeK [] [((Sum.inr "q" : Key), V.int 5)])) hpg2 (same_new (.dK []) hpg2)
    have eg : upd (upd HW pg2 (.dK [])) pg2 (.dK (mergeK [] [((Sum.inr "q" : Key), V.int 5)])) pg2 = some (.dK [((Sum.inr "q" : Key), V.int 5)]) := by rw [upd_same]; rfl
    have rc1 : Rd (upd (upd HW pg2 (.dK [])) pg2 (.dK (mergeK [] [((Sum.inr "q" : Key), V.int 5)]))) pc (.dK [((Sum.inr "p" : Key), V.ref m0), (Sum.inr "q", V.ref p5), (Sum.inr "r", V.ref p6)]) := rd_but rc (But.of_same (S := []) sg) (by simp)
    have eh1 := sg _ _ ehW
    have sX := sW.trans sg
    generalize upd (upd HW pg2 (.dK [])) pg2 (.dK (mergeK [] [((Sum.inr "q" : Key), V.int 5)])) = HX at *
    clear sg rc sW ehW
    walk_at "vs"
    intro ph2 hph2
    have sh := same_new (.tup [V.ref pg2, V.ref pc]) hph2
    have eh2 : upd HX ph2 (.tup [V.ref pg2, V.ref pc]) ph2 = some (.tup [V.ref pg2, V.ref pc]) := upd_same
    have eg := sh _ _ eg
    have rc2 : Rd (upd HX ph2 (.tup [V.ref pg2, V.ref pc])) pc (.dK [((Sum.inr "p" : Key), V.ref m0), (Sum.inr "q", V.ref p5), (Sum.inr "r", V.ref p6)]) := rd_but rc1 (But.of_same (S := []) sh) (by simp)
    have sY := sX.trans sh
    generalize upd HX ph2 (.tup [V.ref pg2, V.ref pc]) = HY at *
    clear sX sh hph2 eh1 rc1
    have rdg : Rd HY pg2 (.dK [((Sum.inr "q" : Key), V.int 5)]) := .inl eg
    have hkg2 : GoodN [((Sum.inr "q" : Key), V.int 5)] := fun p hp => ⟨"q", 5, List.mem_singleton.mp hp, by decide +kernel⟩
    have hkrY := hkr HY sY
    walk_at "vs"
    intro HZ bZ rg3 rc3
    have hall2 : ([((Sum.inr "p" : Key), V.ref m0), (Sum.inr "q", V.ref p5), (Sum.inr "r", V.ref p6)].all fun p => !([((Sum.inr "q" : Key), V.int 5)].any fun q => decide (q.1 = p.1))) = false := by simp
    rw [hall2]
    have sZ : Same HS HZ := but_same sY bZ fun p hp => by
      rcases List.mem_cons.mp hp with rfl | hp
      · exact hpg2S
      · rw [List.mem_singleton.mp hp]; exact hpcS
    have F15 := F13.same sZ
    clear hall2 hkrY rdg hkg2 hkg hkr rc2 eg eh2 bZ rg3 rc3 sY sZ F13
    have em := F15.em
    obtain ⟨o1, o2, o3, o4⟩ := hok (.pick r s' t') (by simp [mrsOf])
    have o3' : (R.pick r s' t').nodes ≤ 1000 := by omega
    have pk : IsR HZ p5 (.pick r s' t') := by
      obtain ⟨a4, r4, e4, f4, i4⟩ := F15.mm.at (i := 4) (x := V.ref p5) rfl
      cases e4; cases f4; exact i4
    have DZ := F15.dk
    have n8 : p8 ∉ [d, c] := fun z => by
      obtain ⟨cells, mode, k, _, h1, h2, h3, _⟩ := DZ
      rcases List.mem_cons.mp z with y | y
      · rw [y] at em
        rw [h1] at em; cases em
      · rw [List.mem_singleton.mp y, h2] at em
        cases cells with
        | nil => exact h3 rfl
        | cons x cells => cases em
    walk_at "vs"
    intro pa ua Ha sa hpa ea da
    have em := sa _ _ em
    have pk := pk.same sa
    have DZ := DZ.same sa
    have lu := due_len da
    clear F15 sa hpa
    walk_at "vs"
    intro pb hpb
    have sb := same_new (.lst ([("nobody" : Str)].map V.str)) hpb
    have eb : upd Ha pb (.lst ([("nobody" : Str)].map V.str)) pb = some (.lst ([("nobody" : Str)].map V.str)) := upd_same
    have em := sb _ _ em
    have pk := pk.same sb
    have DZ := DZ.same sb
    have ea := sb _ _ ea
    change rCat _ _ (upd Ha pb (.lst ([("nobody" : Str)].map V.str))) _
    generalize upd Ha pb (.lst ([("nobody" : Str)].map V.str)) = Hb at *
    clear sb hpb
    have hz : (ua.map V.str).length + ([("nobody" : Str)].map V.str).length ≤ sizeLine := by
      rw [List.length_map, List.length_map, sizeLine_eq, List.length_singleton]; omega
    walk_at "vs"
    intro pc2 hpc2
    have sb := same_new (.lst ((ua ++ [("nobody" : Str)]).map V.str)) hpc2
    have ec2 : upd Hb pc2 (.lst ((ua ++ [("nobody" : Str)]).map V.str)) pc2 = some (.lst ((ua ++ [("nobody" : Str)]).map V.str)) := upd_same
    have n2 : pc2 ∉ [d, c] := DZ.fresh hpc2
    have em := sb _ _ em
    have pk := pk.same sb
    have DZ := DZ.same sb
    rw [← List.map_append]
    generalize upd Hb pc2 (.lst ((ua ++ [("nobody" : Str)]).map V.str)) = Hc2 at *
    clear sb hpc2 ea eb hz
    walk_at "vs"
    intro n3 Hd3 a3 a4 bd Dd3
    have em := bd _ _ n8 em
    have ec2 := bd _ _ n2 ec2
    have pk := pk.tups (DZ.tups bd)
    clear DZ bd
    walk_at "vs"
    intro pe ue He se hpe ee de
    have hue : ue = ua := de.eq da fun _ => Iff.rfl
    subst hue
    have em := se _ _ em
    have ec2 := se _ _ ec2
    have pk := pk.same se
    have gU : ∀ x ∈ ue, GName x := fun x hx => good_names o1 x ((da.2 x).mp hx)
    obtain ⟨old, hat, gold⟩ : ∃ old, atI ((ue ++ [("nobody" : Str)]).map V.str) (n3 % (((ue.map V.str).length : Int) + 1)) = some (.str old) ∧ GName old := by
      obtain ⟨j, hj⟩ := Int.eq_ofNat_of_zero_le (Int.emod_nonneg n3 (b := ((ue.map V.str).length : Int) + 1) (by omega))
      have hlt := Int.emod_lt_of_pos n3 (b := ((ue.map V.str).length : Int) + 1) (by omega)
      rw [hj] at hlt ⊢
      rw [List.length_map] at hlt
      have hjl : j < (ue ++ [("nobody" : Str)]).length := by rw [List.length_append, List.length_singleton]; omega
      refine ⟨(ue ++ [("nobody" : Str)])[j], atI_nat (by rw [List.getElem?_map, List.getElem?_eq_getElem hjl]; rfl), ?_⟩
      rcases List.mem_append.mp (List.getElem_mem hjl) with z | z
      · exact gU _ z
      · rw [List.mem_singleton.mp z]; decide +kernel
    have gfr : GName "fresh" := by decide +kernel
    clear se hpe
    walk_at "vs"
    intro px Hx sx hX
    have em := sx _ _ em
    have pk := pk.same sx
    clear sx ec2 hat
    walk_at "vs"
    intro pf uf Hf sf hpf ef df
    have huf : uf = ue := df.eq da fun _ => Iff.rfl
    subst huf
    have em := sf _ _ em
    have pk := pk.same sf
    have hX := hX.same sf
    clear sf hpf
    walk_at "vs"
    intro Dk hDk
    refine comp_list (xs := uf.map V.str) (fun i σ' H' => Wr ((∃ t, σ' = t :: [some (.str old)]) ∧ Same Hf H' ∧ H' Dk = some (.lst (((uf.take i).filter fun x => !decide (x = old)).map V.str)))) ?_ ?_ ?_ ?_
    · exact .mk ⟨⟨none, rfl⟩, same_new _ hDk, upd_same⟩
    · intro i σ' H' _ hP
      exact SqL.of (hP.h.2.1 _ _ ef)
    · intro i x σ' H' hx hP
      obtain ⟨⟨t, rfl⟩, sc, ed⟩ := hP.h
      clear hP
      obtain ⟨y, hy, rfl⟩ : ∃ y, uf[i]? = some y ∧ x = .str y := by
        rw [List.getElem?_map] at hx
        cases hj : uf[i]? with
        | none => rw [hj] at hx; cases hx
        | some y => rw [hj] at hx; exact ⟨y, rfl, by simpa using hx.symm⟩
      have hz : (((uf.take i).filter fun x => !decide (x = old)).map V.str).length < sizeLine := by
        have := List.length_filter_le (fun x => !decide (x = old)) (uf.take i)
        rw [List.length_take] at this
        rw [List.length_map, sizeLine_eq]; omega
      walk_at "vs"
      refine ite2 (fun c1 => ?_) (fun c1 => ?_)
      · have hyo : y ≠ old := fun z => by subst z; simp at c1
        walk_at "vs"
        refine .mk ⟨⟨_, rfl⟩, same_updN _ hDk sc, ?_⟩
        rw [upd_same, List.take_succ, hy, List.filter_append, List.map_append]
        simp [hyo]
      · have hyo : y = old := by simpa using c1
        refine .mk ⟨⟨_, rfl⟩, sc, ?_⟩
        rw [ed, List.take_succ, hy, List.filter_append, List.map_append]
        simp [hyo]
    intro σ' Hg hP
    obtain ⟨_, sc, ek⟩ := hP.h
    clear hP
    rw [List.length_map, List.take_length] at ek
    have em := sc _ _ em
    have pk := pk.same sc
    have hX := hX.same sc
    clear sc hDk ef
    have nX : (exR old "fresh" (.pick r s' t')).names.length ≤ 1000 := by rw [ex_names, List.length_map]; exact o4
    have dX : (exR old "fresh" (.pick r s' t')).nodes ≤ 1000 := by rw [ex_nodes]; exact o3'
    walk_at "vs"
    intro pu uu Hu su hpu eu duu
    have em := su _ _ em
    have pk := pk.same su
    have ek := su _ _ ek
    clear su hpu hX
    walk_at "vs"
    intro pz hpz
    have sz := same_new (.lst ([("fresh" : Str)].map V.str)) hpz
    have ez : upd Hu pz (.lst ([("fresh" : Str)].map V.str)) pz = some (.lst ([("fresh" : Str)].map V.str)) := upd_same
    have em := sz _ _ em
    have pk := pk.same sz
    have ek := sz _ _ ek
    have eu := sz _ _ eu
    change tCB _ _ _ (upd Hu pz (.lst ([("fresh" : Str)].map V.str))) _
    generalize upd Hu pz (.lst ([("fresh" : Str)].map V.str)) = Hz at *
    clear sz hpz
    walk_at "vs"
    intro pw2 uw Hw sw hpw ew dw
    have huw : uw = uf := dw.eq da fun _ => Iff.rfl
    subst huw
    have ek := sw _ _ ek
    have eu := sw _ _ eu
    have ez := sw _ _ ez
    clear sw hpw em pk
    obtain ⟨kk, hkk, hcmp⟩ : ∃ kk : Bool, kk = decide (old ∈ uw) ∧ decide (((((uw.filter fun x => !decide (x = old)).map V.str).length : Nat) : Int) < (((uw.map V.str).length : Nat) : Int)) = kk := by
      refine ⟨_, rfl, ?_⟩
      rw [← filt_lt (U := uw) (old := old), List.length_map, List.length_map, Bool.eq_iff_iff, decide_eq_true_eq, decide_eq_true_eq]
      exact Int.ofNat_lt
    have k1 : -(2 ^ 63) ≤ (if kk = true then (1 : Int) else 0) := by split <;> decide
    have k2 : (if kk = true then (1 : Int) else 0) < 2 ^ 63 := by split <;> decide
    have k3 : ([("fresh" : Str)].map V.str).length * (if kk = true then (1 : Int) else 0).toNat ≤ sizeLine := by rw [sizeLine_eq]; split <;> exact Nat.le_of_ble_eq_true rfl
    have k4 : (List.replicate (if kk = true then (1 : Int) else 0).toNat ([("fresh" : Str)].map V.str)).flatten = (if decide (old ∈ uw) = true then [("fresh" : Str)] else []).map V.str := by
      rw [← hkk]; cases kk <;> rfl
    refine Exists.intro pw2 (Exists.intro (uw.map V.str) (And.intro rfl (And.intro (.inl (SqL.of ew)) ?_)))
    refine Exists.intro _ (Exists.intro _ (And.intro rfl (And.intro rfl ?_)))
    refine Exists.intro kk (And.intro (congrArg (fun z => [V.bl z]) hcmp) ?_)
    walk_at "vs"
    intro py hpy
    rw [k4]
    have sy := same_new (.lst ((if decide (old ∈ uw) = true then [("fresh" : Str)] else []).map V.str)) hpy
    have ey : upd Hw py (.lst ((if decide (old ∈ uw) = true then [("fresh" : Str)] else []).map V.str)) py = some (.lst ((if decide (old ∈ uw) = true then [("fresh" : Str)] else []).map V.str)) := upd_same
    have ek := sy _ _ ek
    have eu := sy _ _ eu
    generalize upd Hw py (.lst ((if decide (old ∈ uw) = true then [("fresh" : Str)] else []).map V.str)) = Hy at *
    clear sy hpy k1 k2 k3 k4 ez ew
    walk_at "vs"
    intro pv hpv
    have sv := same_new (.lst [V.ref Dk, V.ref py]) hpv
    have ev : upd Hy pv (.lst [V.ref Dk, V.ref py]) pv = some (.lst [V.ref Dk, V.ref py]) := upd_same
    have ek := sv _ _ ek
    have eu := sv _ _ eu
    have ey := sv _ _ ey
    generalize upd Hy pv (.lst [V.ref Dk, V.ref py]) = Hv at *
    clear sv hpv
    have rwv : Rows Hv [.ref Dk, .ref py] [uw.filter fun x => !decide (x = old), (if decide (old ∈ uw) = true then [("fresh" : Str)] else [])] := .cons ⟨Dk, rfl, .inl ek⟩ (.cons ⟨py, rfl, .inl ey⟩ .nil)
    have lwv : [uw.filter fun x => !decide (x = old), (if decide (old ∈ uw) = true then [("fresh" : Str)] else [])].flatten.length ≤ 2000 := by
      have h1 := List.length_filter_le (fun x => !decide (x = old)) uw
      have h2 : (if decide (old ∈ uw) = true then [("fresh" : Str)] else []).length ≤ 1 := by split <;> decide
      rw [List.flatten_cons, List.flatten_cons, List.flatten_nil, List.append_nil, List.length_append]
      omega
    walk_at "vs"
    intro po dso Ho so hpo eo ddo
    have hfin : dso = uu := ddo.eq duu fun x => by rw [ex_names]; exact ex_mem da.2 x
    subst hfin
    have eu := so _ _ eu
    have hgn : ∀ y ∈ dso, GName y := fun y hy => good_names (ex_good gfr o1) y ((duu.2 y).mp hy)
    have hsh2 := shaped_nm2 hgn
    have dv1 : DatV K Ho (.ref pu) (.list (dso.map PyData.str)) := .lst (SqL.of eu) (datVs_strs dso)
    have dv2 : DatV K Ho (.ref po) (.list (dso.map PyData.str)) := .lst (SqL.of eo) (datVs_strs dso)
    walk_at "vs"
    exact q _
end

theorem fnT_mk {K : PySem.W.Frag} {h : Heap} {mg : Str → Option Value} (X : K.In h) (G : h.Ns mainGlobals mg) {x : Str} {st : Stmt} {ps : List Str} {f : Addr} {oc : Value} {od an : Option Addr} {osl : Array (Option Value)} {kV doc pm cdv ct : Value}
    (a : PySem.W.nsIn K mainGlobals x = some (some (.ref f))) (l : K.lookup f = some ⟨oc, od, .func (PySem.W.fnOf x x (defArgs st) (defBody st) (defScope st) .none kV doc pm an cdv ct), osl⟩) (c : PySem.W.codeIn K cdv x = true) (k : PySem.W.keepIn K (.ref f) = true)
    (hb : ∀ us : List Value, us.length = ps.length → bindArgs (PySem.W.fnOf x x (defArgs st) (defBody st) (defScope st) .none kV doc pm an cdv ct) ⟨us, []⟩ = pure (ps.zip us)) :
    FnT K mg x st ps f (PySem.W.fnOf x x (defArgs st) (defBody st) (defScope st) .none kV doc pm an cdv ct) :=
  ⟨fun_mk l c k, Binds.all hb, PySem.W.mg_of X G a⟩


theorem all_mk {l : PySem.W.OpenLaw} {w : World} {K : PySem.W.Frag} {h : Heap} {mg : Str → Option Value} {fa f1 f2 f3 f4 f5 f6 f7 f8 f9 f10 f11 f12 f13 f14 f15 f16 : Addr} (X : K.In h) (G : h.Ns mainGlobals mg) (hfa : mg "law" = some (.ref fa))
    {od1 an1 od2 an2 od3 an3 od4 an4 od5 an5 od6 an6 od7 an7 od8 an8 od9 an9 od10 an10 od11 an11 od12 an12 od13 an13 od14 an14 od15 an15 od16 an16 : Option Addr} {sl1 sl2 sl3 sl4 sl5 sl6 sl7 sl8 sl9 sl10 sl11 sl12 sl13 sl14 sl15 sl16 : Array (Option Value)} {oc1 kV1 dc1 pm1 cd1 ct1 oc2 kV2 dc2 pm2 cd2 ct2 oc3 kV3 dc3 pm3 cd3 ct3 oc4 kV4 dc4 pm4 cd4 ct4 oc5 kV5 dc5 pm5 cd5 ct5 oc6 kV6 dc6 pm6 cd6 ct6 oc7 kV7 dc7 pm7 cd7 ct7 oc8 kV8 dc8 pm8 cd8 ct8 oc9 kV9 dc9 pm9 cd9 ct9 oc10 kV10 dc10 pm10 cd10 ct10 oc11 kV11 dc11 pm11 cd11 ct11 oc12 kV12 dc12 pm12 cd12 ct12 oc13 kV13 dc13 pm13 cd13 ct13 oc14 kV14 dc14 pm14 cd14 ct14 oc15 kV15 dc15 pm15 cd15 ct15 oc16 kV16 dc16 pm16 cd16 ct16 : Value}
    (a1 : PySem.W.nsIn K mainGlobals "is_whole_number" = some (some (.ref f1))) (l1 : K.lookup f1 = some ⟨oc1, od1, .func (PySem.W.fnOf "is_whole_number" "is_whole_number" (defArgs s_is_whole_number) (defBody s_is_whole_number) (defScope s_is_whole_number) .none kV1 dc1 pm1 an1 cd1 ct1), sl1⟩) (c1 : PySem.W.codeIn K cd1 "is_whole_number" = true) (k1 : PySem.W.keepIn K (.ref f1) = true)
    (a2 : PySem.W.nsIn K mainGlobals "is_name" = some (some (.ref f2))) (l2 : K.lookup f2 = some ⟨oc2, od2, .func (PySem.W.fnOf "is_name" "is_name" (defArgs s_is_name) (defBody s_is_name) (defScope s_is_name) .none kV2 dc2 pm2 an2 cd2 ct2), sl2⟩) (c2 : PySem.W.codeIn K cd2 "is_name" = true) (k2 : PySem.W.keepIn K (.ref f2) = true)
    (a3 : PySem.W.nsIn K mainGlobals "is_choice" = some (some (.ref f3))) (l3 : K.lookup f3 = some ⟨oc3, od3, .func (PySem.W.fnOf "is_choice" "is_choice" (defArgs s_is_choice) (defBody s_is_choice) (defScope s_is_choice) .none kV3 dc3 pm3 an3 cd3 ct3), sl3⟩) (c3 : PySem.W.codeIn K cd3 "is_choice" = true) (k3 : PySem.W.keepIn K (.ref f3) = true)
    (a4 : PySem.W.nsIn K mainGlobals "has_shape" = some (some (.ref f4))) (l4 : K.lookup f4 = some ⟨oc4, od4, .func (PySem.W.fnOf "has_shape" "has_shape" (defArgs s_has_shape) (defBody s_has_shape) (defScope s_has_shape) .none kV4 dc4 pm4 an4 cd4 ct4), sl4⟩) (c4 : PySem.W.codeIn K cd4 "has_shape" = true) (k4 : PySem.W.keepIn K (.ref f4) = true)
    (a5 : PySem.W.nsIn K mainGlobals "recipes_within" = some (some (.ref f5))) (l5 : K.lookup f5 = some ⟨oc5, od5, .func (PySem.W.fnOf "recipes_within" "recipes_within" (defArgs s_recipes_within) (defBody s_recipes_within) (defScope s_recipes_within) .none kV5 dc5 pm5 an5 cd5 ct5), sl5⟩) (c5 : PySem.W.codeIn K cd5 "recipes_within" = true) (k5 : PySem.W.keepIn K (.ref f5) = true)
    (a6 : PySem.W.nsIn K mainGlobals "is_recipe" = some (some (.ref f6))) (l6 : K.lookup f6 = some ⟨oc6, od6, .func (PySem.W.fnOf "is_recipe" "is_recipe" (defArgs s_is_recipe) (defBody s_is_recipe) (defScope s_is_recipe) .none kV6 dc6 pm6 an6 cd6 ct6), sl6⟩) (c6 : PySem.W.codeIn K cd6 "is_recipe" = true) (k6 : PySem.W.keepIn K (.ref f6) = true)
    (a7 : PySem.W.nsIn K mainGlobals "is_house" = some (some (.ref f7))) (l7 : K.lookup f7 = some ⟨oc7, od7, .func (PySem.W.fnOf "is_house" "is_house" (defArgs s_is_house) (defBody s_is_house) (defScope s_is_house) .none kV7 dc7 pm7 an7 cd7 ct7), sl7⟩) (c7 : PySem.W.codeIn K cd7 "is_house" = true) (k7 : PySem.W.keepIn K (.ref f7) = true)
    (a8 : PySem.W.nsIn K mainGlobals "names_in" = some (some (.ref f8))) (l8 : K.lookup f8 = some ⟨oc8, od8, .func (PySem.W.fnOf "names_in" "names_in" (defArgs s_names_in) (defBody s_names_in) (defScope s_names_in) .none kV8 dc8 pm8 an8 cd8 ct8), sl8⟩) (c8 : PySem.W.codeIn K cd8 "names_in" = true) (k8 : PySem.W.keepIn K (.ref f8) = true)
    (a9 : PySem.W.nsIn K mainGlobals "_law_deck" = some (some (.ref f9))) (l9 : K.lookup f9 = some ⟨oc9, od9, .func (PySem.W.fnOf "_law_deck" "_law_deck" (defArgs s_law_deck) (defBody s_law_deck) (defScope s_law_deck) .none kV9 dc9 pm9 an9 cd9 ct9), sl9⟩) (c9 : PySem.W.codeIn K cd9 "_law_deck" = true) (k9 : PySem.W.keepIn K (.ref f9) = true)
    (a10 : PySem.W.nsIn K mainGlobals "_law_draw" = some (some (.ref f10))) (l10 : K.lookup f10 = some ⟨oc10, od10, .func (PySem.W.fnOf "_law_draw" "_law_draw" (defArgs s_law_draw) (defBody s_law_draw) (defScope s_law_draw) .none kV10 dc10 pm10 an10 cd10 ct10), sl10⟩) (c10 : PySem.W.codeIn K cd10 "_law_draw" = true) (k10 : PySem.W.keepIn K (.ref f10) = true)
    (a11 : PySem.W.nsIn K mainGlobals "_law_name" = some (some (.ref f11))) (l11 : K.lookup f11 = some ⟨oc11, od11, .func (PySem.W.fnOf "_law_name" "_law_name" (defArgs s_law_name) (defBody s_law_name) (defScope s_law_name) .none kV11 dc11 pm11 an11 cd11 ct11), sl11⟩) (c11 : PySem.W.codeIn K cd11 "_law_name" = true) (k11 : PySem.W.keepIn K (.ref f11) = true)
    (a12 : PySem.W.nsIn K mainGlobals "_law_number" = some (some (.ref f12))) (l12 : K.lookup f12 = some ⟨oc12, od12, .func (PySem.W.fnOf "_law_number" "_law_number" (defArgs s_law_number) (defBody s_law_number) (defScope s_law_number) .none kV12 dc12 pm12 an12 cd12 ct12), sl12⟩) (c12 : PySem.W.codeIn K cd12 "_law_number" = true) (k12 : PySem.W.keepIn K (.ref f12) = true)
    (a13 : PySem.W.nsIn K mainGlobals "_law_recipe" = some (some (.ref f13))) (l13 : K.lookup f13 = some ⟨oc13, od13, .func (PySem.W.fnOf "_law_recipe" "_law_recipe" (defArgs s_law_recipe) (defBody s_law_recipe) (defScope s_law_recipe) .none kV13 dc13 pm13 an13 cd13 ct13), sl13⟩) (c13 : PySem.W.codeIn K cd13 "_law_recipe" = true) (k13 : PySem.W.keepIn K (.ref f13) = true)
    (a14 : PySem.W.nsIn K mainGlobals "_law_together" = some (some (.ref f14))) (l14 : K.lookup f14 = some ⟨oc14, od14, .func (PySem.W.fnOf "_law_together" "_law_together" (defArgs s_law_together) (defBody s_law_together) (defScope s_law_together) .none kV14 dc14 pm14 an14 cd14 ct14), sl14⟩) (c14 : PySem.W.codeIn K cd14 "_law_together" = true) (k14 : PySem.W.keepIn K (.ref f14) = true)
    (a15 : PySem.W.nsIn K mainGlobals "_law_exchanged" = some (some (.ref f15))) (l15 : K.lookup f15 = some ⟨oc15, od15, .func (PySem.W.fnOf "_law_exchanged" "_law_exchanged" (defArgs s_law_exchanged) (defBody s_law_exchanged) (defScope s_law_exchanged) .none kV15 dc15 pm15 an15 cd15 ct15), sl15⟩) (c15 : PySem.W.codeIn K cd15 "_law_exchanged" = true) (k15 : PySem.W.keepIn K (.ref f15) = true)
    (a16 : PySem.W.nsIn K mainGlobals "law" = some (some (.ref f16))) (l16 : K.lookup f16 = some ⟨oc16, od16, .func (PySem.W.fnOf "law" "law" (defArgs s_law) (defBody s_law) (defScope s_law) .none kV16 dc16 pm16 an16 cd16 ct16), sl16⟩) (c16 : PySem.W.codeIn K cd16 "law" = true) (k16 : PySem.W.keepIn K (.ref f16) = true)
    {aW : Addr} (taW : PySem.W.nsIn K mainGlobals "WITHIN" = some (some (.ref aW))) (tbaW : Tab l.prog w K aW withinD)
    {tLT : Tok} (qLT : PySem.W.nsIn K mainGlobals "LETTERS" = some (some (.str "abcdefghijklmnopqrstuvwxyz" tLT)))
    {tML : Tok} (qML : PySem.W.nsIn K mainGlobals "MOST_LETTERS" = some (some (.int 8 tML)))
    {tMC : Tok} (qMC : PySem.W.nsIn K mainGlobals "MOST_CHOICES" = some (some (.int 9 tMC)))
    {tMD : Tok} (qMD : PySem.W.nsIn K mainGlobals "MOST_DEPTH" = some (some (.int 8 tMD)))
    {tMR : Tok} (qMR : PySem.W.nsIn K mainGlobals "MOST_RECIPES" = some (some (.int 100 tMR)))
    (kd : Kinds K)
    (z_len : PySem.W.nsIn K mainGlobals "len" = some none)
    (z_range : PySem.W.nsIn K mainGlobals "range" = some none)
    (z_str : PySem.W.nsIn K mainGlobals "str" = some none)
    (z_int : PySem.W.nsIn K mainGlobals "int" = some none)
    (z_list : PySem.W.nsIn K mainGlobals "list" = some none)
    (z_tuple : PySem.W.nsIn K mainGlobals "tuple" = some none)
    (z_isinstance : PySem.W.nsIn K mainGlobals "isinstance" = some none)
    (z_bool : PySem.W.nsIn K mainGlobals "bool" = some none)
    (z_dict : PySem.W.nsIn K mainGlobals "dict" = some none)
    (z_sum : PySem.W.nsIn K mainGlobals "sum" = some none)
    (z_all : PySem.W.nsIn K mainGlobals "all" = some none)
    (z_any : PySem.W.nsIn K mainGlobals "any" = some none)
    (z_max : PySem.W.nsIn K mainGlobals "max" = some none)
    (z_min : PySem.W.nsIn K mainGlobals "min" = some none)
    (z_sorted : PySem.W.nsIn K mainGlobals "sorted" = some none)
    (z_set : PySem.W.nsIn K mainGlobals "set" = some none)
    (z_enumerate : PySem.W.nsIn K mainGlobals "enumerate" = some none)
    (z_zip : PySem.W.nsIn K mainGlobals "zip" = some none)
    (z_reversed : PySem.W.nsIn K mainGlobals "reversed" = some none)
    (z_abs : PySem.W.nsIn K mainGlobals "abs" = some none)
    : ∃ fd : FuncData, (∀ (s : Shared) (v : Value), BindsTo s fd ⟨[v], []⟩ [("script", v)]) ∧ ∀ base : Heap, K.In base → base.Ns mainGlobals mg → FnOk l.prog w K mg base CX0 11 fa fd ["script"] (spLaw K) := by
  have e := hfa.symm.trans (PySem.W.mg_of X G a16)
  cases e
  have T_is_whole_number : FnT K mg "is_whole_number" s_is_whole_number ["thing"] _ _ := fnT_mk X G a1 l1 c1 k1 (fun us hl => match us, hl with | [_], _ => rfl)
  have T_is_name : FnT K mg "is_name" s_is_name ["thing"] _ _ := fnT_mk X G a2 l2 c2 k2 (fun us hl => match us, hl with | [_], _ => rfl)
  have T_is_choice : FnT K mg "is_choice" s_is_choice ["thing"] _ _ := fnT_mk X G a3 l3 c3 k3 (fun us hl => match us, hl with | [_], _ => rfl)
  have T_has_shape : FnT K mg "has_shape" s_has_shape ["thing"] _ _ := fnT_mk X G a4 l4 c4 k4 (fun us hl => match us, hl with | [_], _ => rfl)
  have T_recipes_within : FnT K mg "recipes_within" s_recipes_within ["r"] _ _ := fnT_mk X G a5 l5 c5 k5 (fun us hl => match us, hl with | [_], _ => rfl)
  have T_is_recipe : FnT K mg "is_recipe" s_is_recipe ["thing"] _ _ := fnT_mk X G a6 l6 c6 k6 (fun us hl => match us, hl with | [_], _ => rfl)
  have T_is_house : FnT K mg "is_house" s_is_house ["thing"] _ _ := fnT_mk X G a7 l7 c7 k7 (fun us hl => match us, hl with | [_], _ => rfl)
  have T_names_in : FnT K mg "names_in" s_names_in ["r"] _ _ := fnT_mk X G a8 l8 c8 k8 (fun us hl => match us, hl with | [_], _ => rfl)
  have T_law_deck : FnT K mg "_law_deck" s_law_deck ["script"] _ _ := fnT_mk X G a9 l9 c9 k9 (fun us hl => match us, hl with | [_], _ => rfl)
  have T_law_draw : FnT K mg "_law_draw" s_law_draw ["deck", "many"] _ _ := fnT_mk X G a10 l10 c10 k10 (fun us hl => match us, hl with | [_, _], _ => rfl)
  have T_law_name : FnT K mg "_law_name" s_law_name ["deck"] _ _ := fnT_mk X G a11 l11 c11 k11 (fun us hl => match us, hl with | [_], _ => rfl)
  have T_law_number : FnT K mg "_law_number" s_law_number ["deck"] _ _ := fnT_mk X G a12 l12 c12 k12 (fun us hl => match us, hl with | [_], _ => rfl)
  have T_law_recipe : FnT K mg "_law_recipe" s_law_recipe ["deck", "deep", "left"] _ _ := fnT_mk X G a13 l13 c13 k13 (fun us hl => match us, hl with | [_, _, _], _ => rfl)
  have T_law_together : FnT K mg "_law_together" s_law_together ["rows"] _ _ := fnT_mk X G a14 l14 c14 k14 (fun us hl => match us, hl with | [_], _ => rfl)
  have T_law_exchanged : FnT K mg "_law_exchanged" s_law_exchanged ["r", "old", "new"] _ _ := fnT_mk X G a15 l15 c15 k15 (fun us hl => match us, hl with | [_, _, _], _ => rfl)
  have T_law : FnT K mg "law" s_law ["script"] _ _ := fnT_mk X G a16 l16 c16 k16 (fun us hl => match us, hl with | [_], _ => rfl)
  have T : Blt mg := ⟨PySem.W.mg_none_of X G z_len, PySem.W.mg_none_of X G z_range, PySem.W.mg_none_of X G z_str, PySem.W.mg_none_of X G z_int, PySem.W.mg_none_of X G z_list, PySem.W.mg_none_of X G z_tuple, PySem.W.mg_none_of X G z_isinstance, PySem.W.mg_none_of X G z_bool, PySem.W.mg_none_of X G z_dict, PySem.W.mg_none_of X G z_sum, PySem.W.mg_none_of X G z_all, PySem.W.mg_none_of X G z_any, PySem.W.mg_none_of X G z_max, PySem.W.mg_none_of X G z_min, PySem.W.mg_none_of X G z_sorted, PySem.W.mg_none_of X G z_set, PySem.W.mg_none_of X G z_enumerate, PySem.W.mg_none_of X G z_zip, PySem.W.mg_none_of X G z_reversed, PySem.W.mg_none_of X G z_abs⟩
  have maW := PySem.W.mg_of X G taW
  have mLT := PySem.W.mg_of X G qLT
  have mML := PySem.W.mg_of X G qML
  have mMC := PySem.W.mg_of X G qMC
  have mMD := PySem.W.mg_of X G qMD
  have mMR := PySem.W.mg_of X G qMR
  refine ⟨PySem.W.fnOf "law" "law" (defArgs s_law) (defBody s_law) (defScope s_law) .none kV16 dc16 pm16 an16 cd16 ct16, fun s v => .of_eq rfl, fun base _ _ => ?_⟩
  have D1 := ok_is_whole_number (P := l.prog) (w := w) (base := base) T_is_whole_number T kd
  have D2 := ok_is_name (P := l.prog) (w := w) (base := base) T_is_name T kd mLT mML
  have D3 := ok_is_choice (P := l.prog) (w := w) (base := base) T_is_choice T_is_name D2 T kd mMC
  have D4 := ok_has_shape (P := l.prog) (w := w) (base := base) T_has_shape T_is_whole_number D1 T_is_name D2 T_is_choice D3 T kd maW tbaW
  have D5 := ok_recipes_within (P := l.prog) (w := w) (base := base) T_recipes_within T maW tbaW
  have D6 := ok_is_recipe (P := l.prog) (w := w) (base := base) T_is_recipe T_has_shape D4 T_recipes_within D5 T mMR mMD
  have D7 := ok_recipes_withinR (P := l.prog) (w := w) (base := base) T_recipes_within T maW tbaW
  have D8 := ok_names_in (P := l.prog) (w := w) (base := base) T_names_in T_recipes_within D7 T
  have D9 := ok_law_draw (P := l.prog) (w := w) (base := base) T_law_draw T
  have D10 := ok_law_name (P := l.prog) (w := w) (base := base) T_law_name T_law_draw D9 T
  have D11 := ok_law_number (P := l.prog) (w := w) (base := base) T_law_number T_law_draw D9
  have D12 := ok_law_recipe T_law_recipe T_law_draw D9 T_law_name D10 T_law_number D11 T 6
  have D13 := ok_law_deck (P := l.prog) (w := w) (base := base) T_law_deck T
  have D14 := ok_is_house (P := l.prog) (w := w) (base := base) T_is_house T_is_whole_number D1 T_is_name D2 T_is_recipe D6 T kd
  have D15 := ok_law_together (P := l.prog) (w := w) (base := base) T_law_together T
  have D16 := ok_law_exchanged (P := l.prog) (w := w) (base := base) T_law_exchanged T 8
  exact ok_law T_law T_law_deck D13 T_law_draw D9 T_law_recipe D12 T_names_in D8 T_law_name D10 T_is_recipe D6 T_is_house D14 T_law_together D15 T_law_exchanged D16 T
theorem walk {l : PySem.W.OpenLaw} {q : Program} {loose : List Str} {XP : (Str → Option Value) → Heap → Prop} {YP : World → Heap → Prop} {d : DefRec} {K : Params → PySem.W.Frag} (hn : l.most = some 63) (hdf : d.params.defaults = [])
    (hY : ∀ (w : World) (h : Heap), YP w h → (K w.params).In h)
    (F : ∀ (w : World) (mg : Str → Option Value) (fa : Addr) (h : Heap), (K w.params).In h → h.Ns mainGlobals mg → mg d.name = some (.ref fa) →
      ∃ fd : FuncData, (∀ (s : Shared) (u : Value), BindsTo s fd ⟨[u], []⟩ [("script", u)]) ∧ ∀ base : Heap, (K w.params).In base → base.Ns mainGlobals mg → FnOk l.prog w (K w.params) mg base CX0 11 fa fd ["script"] (spLaw (K w.params))) :
    PySem.W.WalkO q loose XP YP l.row.toRowW d [] (fun f vs => PySem.call f vs) :=
  L2.walk_of (n := 63) (k := 11) (x := "script") (CX := fun _ => CX0) (sp := fun w => spLaw (K w.params)) hn (by decide) hdf ⟨rfl, by decide, by decide⟩ hY F (fun _ _ a ns hl _ hS => ⟨a, ns, rfl, hS, hl, fun _ => rfl⟩) fun _ _ _ _ _ z => z
end K05
open PySem PySem.W PyProof.Rows
set_option maxRecDepth 100000 in
set_option maxHeartbeats 0 in
theorem PySem.Challenge.cw_madeagain_k05_whole_recipes_put_together_holds : PySem.Challenge.rw_madeagain_k05_whole_recipes_put_together.Holds := by
  w_on; o_law; k_head; (case hw => w_witness2)
  k_fill
  refine K05.walk (l := PySem.Challenge.rw_madeagain_k05_whole_recipes_put_together) rfl rfl (fun w h Y => PySem.W.kIn_of Y) ?F
  case F =>
    intro w mg fa h KX G hmg
    refine' K05.all_mk KX G hmg ?a1 ?l1 ?c1 ?k1 ?a2 ?l2 ?c2 ?k2 ?a3 ?l3 ?c3 ?k3 ?a4 ?l4 ?c4 ?k4 ?a5 ?l5 ?c5 ?k5 ?a6 ?l6 ?c6 ?k6 ?a7 ?l7 ?c7 ?k7 ?a8 ?l8 ?c8 ?k8 ?a9 ?l9 ?c9 ?k9 ?a10 ?l10 ?c10 ?k10 ?a11 ?l11 ?c11 ?k11 ?a12 ?l12 ?c12 ?k12 ?a13 ?l13 ?c13 ?k13 ?a14 ?l14 ?c14 ?k14 ?a15 ?l15 ?c15 ?k15 ?a16 ?l16 ?c16 ?k16 ?taW ?tbaW ?qLT ?qML ?qMC ?qMD ?qMR ?kd ?z_len ?z_range ?z_str ?z_int ?z_list ?z_tuple ?z_isinstance ?z_bool ?z_dict ?z_sum ?z_all ?z_any ?z_max ?z_min ?z_sorted ?z_set ?z_enumerate ?z_zip ?z_reversed ?z_abs
    (case a1 => k_is); (case l1 => k_is); (case c1 => k_is); (case k1 => k_is)
    (case a2 => k_is); (case l2 => k_is); (case c2 => k_is); (case k2 => k_is)
    (case a3 => k_is); (case l3 => k_is); (case c3 => k_is); (case k3 => k_is)
    (case a4 => k_is); (case l4 => k_is); (case c4 => k_is); (case k4 => k_is)
    (case a5 => k_is); (case l5 => k_is); (case c5 => k_is); (case k5 => k_is)
    (case a6 => k_is); (case l6 => k_is); (case c6 => k_is); (case k6 => k_is)
    (case a7 => k_is); (case l7 => k_is); (case c7 => k_is); (case k7 => k_is)
    (case a8 => k_is); (case l8 => k_is); (case c8 => k_is); (case k8 => k_is)
    (case a9 => k_is); (case l9 => k_is); (case c9 => k_is); (case k9 => k_is)
    (case a10 => k_is); (case l10 => k_is); (case c10 => k_is); (case k10 => k_is)
    (case a11 => k_is); (case l11 => k_is); (case c11 => k_is); (case k11 => k_is)
    (case a12 => k_is); (case l12 => k_is); (case c12 => k_is); (case k12 => k_is)
    (case a13 => k_is); (case l13 => k_is); (case c13 => k_is); (case k13 => k_is)
    (case a14 => k_is); (case l14 => k_is); (case c14 => k_is); (case k14 => k_is)
    (case a15 => k_is); (case l15 => k_is); (case c15 => k_is); (case k15 => k_is)
    (case a16 => k_is); (case l16 => k_is); (case c16 => k_is); (case k16 => k_is)
    (case taW => k_is); (case tbaW => exact L2.tab_mk (by kernel_rfl) (by decide +kernel) (by kernel_rfl))
    (case qLT => k_is)
    (case qML => k_is)
    (case qMC => k_is)
    (case qMD => k_is)
    (case qMR => k_is)
    (case kd => exact RB.kinds_mk (by kernel_rfl))
    (case z_len => k_is); (case z_range => k_is); (case z_str => k_is); (case z_int => k_is); (case z_list => k_is); (case z_tuple => k_is); (case z_isinstance => k_is); (case z_bool => k_is); (case z_dict => k_is); (case z_sum => k_is); (case z_all => k_is); (case z_any => k_is); (case z_max => k_is); (case z_min => k_is); (case z_sorted => k_is); (case z_set => k_is); (case z_enumerate => k_is); (case z_zip => k_is); (case z_reversed => k_is); (case z_abs => k_is)

