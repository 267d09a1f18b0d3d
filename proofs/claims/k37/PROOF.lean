import PyProof.Rows.All
import Wide.All
import OpenK.AllK
import Wide.FinOn
import Lean
import PyProof.EqAt
import PyProof.EqKinds
import PyProof.TupleCall
import KE.KTops
import KE.KIntText
import KE.KTryMore
import PyProof.ExcBaseAll.ValueError
import PyProof.Rows.SetFrom
import PyProof.ZipIter
import KE.KTurns
import KE.KxText
import PyProof.Rows.SumGenD
import KE.KDictList
import PyProof.DictWalks
import KE.KEqDict
import KE.KDictOf
import PyProof.Rows.SortStr
import PyProof.Rows.SortWalk
import PyProof.WalksEnum
import PyProof.Rows.SumAny
import PySem.Challenge.RW_madeagain_k37_twins
set_option Elab.async false
set_option linter.all false
set_option maxRecDepth 100000
/-! THE HAND LAYER, for ints, bools, texts, own classes, LISTS and tuples (index, slices, in, append, pop ..), calls, loops. Paste it whole ahead of your own text; what your proof does not reach may be deleted. -/
namespace L2
open PySem PySem.Spec PyProof.Rows

/-- a key: an int or a str -/
noncomputable abbrev Key := Sum Int Str
noncomputable def keyIs : Key → Value → Bool
  | .inl k, v => Value.isInt k v
  | .inr x, v => Value.isStrOf x v
noncomputable def keyH (w : World) : Key → Int
  | .inl k => hashInt k
  | .inr x => hashStr w x
theorem keyIs_shape : ∀ {k : Key} {v : Value}, keyIs k v = true → (∃ i t, k = Sum.inl i ∧ v = Value.int i t) ∨ (∃ x t, k = Sum.inr x ∧ v = Value.str x t)
  | .inl i, v, h => by
    obtain ⟨t, e⟩ := Value.isInt_shape (k := i) (v := v) h
    exact .inl ⟨i, t, rfl, e⟩
  | .inr x, v, h => by
    obtain ⟨t, e⟩ := Value.isStrOf_shape (x := x) (v := v) h
    exact .inr ⟨x, t, rfl, e⟩
theorem keyIs_int (i : Int) (t : Tok) : keyIs (.inl i) (.int i t) = true := by simp [keyIs, Value.isInt]
theorem keyIs_str (x : Str) (t : Tok) : keyIs (.inr x) (.str x t) = true := by simp [keyIs, Value.isStrOf]
theorem key_ll (a b : Int) : decide ((Sum.inl a : Key) = Sum.inl b) = (a == b) := by
  by_cases e : a = b
  · subst e; simp
  · have h : ¬ (Sum.inl a : Key) = Sum.inl b := fun q => e (Sum.inl.inj q)
    rw [decide_eq_false h]
    exact (beq_eq_false_iff_ne.mpr e).symm
theorem key_rr (a b : Str) : decide ((Sum.inr a : Key) = Sum.inr b) = decide (a = b) := by
  by_cases e : a = b
  · subst e; simp
  · have h : ¬ (Sum.inr a : Key) = Sum.inr b := fun q => e (Sum.inr.inj q)
    rw [decide_eq_false h, decide_eq_false e]
theorem key_lr (a : Int) (b : Str) : decide ((Sum.inl a : Key) = Sum.inr b) = false := decide_eq_false (fun q => nomatch q)
theorem key_rl (a : Str) (b : Int) : decide ((Sum.inr a : Key) = Sum.inl b) = false := decide_eq_false (fun q => nomatch q)

noncomputable def mixKind (prog : Program) (w : World) : PySem.KeyKind prog w Key where
  is := keyIs
  hash := keyH w
  inj := fun v a b ha hb => by
    rcases keyIs_shape ha with ⟨i, t, rfl, rfl⟩ | ⟨x, t, rfl, rfl⟩
    · rcases keyIs_shape hb with ⟨j, u, rfl, e⟩ | ⟨y, u, rfl, e⟩
      · injection e with e1 _; rw [e1]
      · exact nomatch e
    · rcases keyIs_shape hb with ⟨j, u, rfl, e⟩ | ⟨y, u, rfl, e⟩
      · exact nomatch e
      · injection e with e1 _; rw [e1]
  byValue := fun k v h => by
    rcases keyIs_shape h with ⟨i, t, rfl, rfl⟩ | ⟨x, t, rfl, rfl⟩ <;> rfl
  pyHash := fun hv h => by
    rcases keyIs_shape hv with ⟨i, t, rfl, rfl⟩ | ⟨x, t, rfl, rfl⟩
    · exact wpAny_pyHash_int h
    · exact wpAny_pyHash_str h
  eqBool := fun hu hv h => by
    rcases keyIs_shape hu with ⟨i, t, rfl, rfl⟩ | ⟨x, t, rfl, rfl⟩
    · rcases keyIs_shape hv with ⟨j, u, rfl, rfl⟩ | ⟨y, u, rfl, rfl⟩
      · rw [key_ll] at h; exact wpAny_eqBool_int h
      · rw [key_lr] at h; exact SeqAt.EqAt.int_str i t y u _ _ _ _ h
    · rcases keyIs_shape hv with ⟨j, u, rfl, rfl⟩ | ⟨y, u, rfl, rfl⟩
      · rw [key_rl] at h; exact SeqAt.EqAt.str_int x t j u _ _ _ _ h
      · rw [key_rr] at h; exact wpAny_eqBool_str h
  «strs» := fun k x t v h => by
    rcases keyIs_shape h with ⟨i, u, rfl, e⟩ | ⟨y, u, rfl, e⟩
    · exact nomatch e
    · injection e with e1 _
      subst e1
      cases v <;> rfl

theorem mixKind_int (prog : Program) (w : World) (i : Int) (t : Tok) : (mixKind prog w).is (.inl i) (.int i t) = true := keyIs_int i t
theorem mixKind_str (prog : Program) (w : World) (x : Str) (t : Tok) : (mixKind prog w).is (.inr x) (.str x t) = true := keyIs_str x t
end L2

namespace L2
open PySem PySem.Spec PyProof.Rows

/-- a value, without the heap -/
inductive V where
  | non | bl (b : Bool) | int (i : Int) | str (x : Str) | byt (b : Array UInt8) | flt (b : UInt64) | ref (a : Addr) | ty (n : String)
  deriving DecidableEq

noncomputable def RelV : V → Value → Prop
  | .non, u => u = Value.none
  | .bl b, u => u = Value.bool b
  | .int i, u => ∃ t, u = Value.int i t
  | .str x, u => ∃ t, u = Value.str x t
  | .byt b, u => ∃ t, u = Value.bytes b t
  | .flt b, u => ∃ t, u = Value.float b t
  | .ref a, u => u = Value.ref a
  | .ty n, u => u = Value.type n

noncomputable abbrev Vals : List V → List Value → Prop := Paired RelV
theorem Vals.length {xs : List V} {us : List Value} (r : Vals xs us) : xs.length = us.length := Paired.length r
theorem Vals.get : ∀ {xs : List V} {us : List Value} {i : Nat} {x : V}, Vals xs us → xs[i]? = some x → ∃ u, us[i]? = some u ∧ RelV x u
  | _, _, _, _, .nil, e => by simp at e
  | _, _, 0, _, .cons r _, e => by simp at e; subst e; exact ⟨_, rfl, r⟩
  | _, _, i + 1, x, .cons _ t, e => by
    obtain ⟨u, h1, h2⟩ := Vals.get (i := i) (x := x) t (by simpa using e)
    exact ⟨u, by simpa using h1, h2⟩
theorem Vals.append : ∀ {xs ys : List V} {us ws : List Value}, Vals xs us → Vals ys ws → Vals (xs ++ ys) (us ++ ws)
  | _, _, _, _, .nil, s => s
  | _, _, _, _, .cons r t, s => .cons r (Vals.append t s)
theorem Vals.take : ∀ {xs : List V} {us : List Value} (n : Nat), Vals xs us → Vals (xs.take n) (us.take n)
  | _, _, 0, _ => .nil
  | _, _, _ + 1, .nil => .nil
  | _, _, n + 1, .cons r t => .cons r (Vals.take n t)
theorem Vals.drop : ∀ {xs : List V} {us : List Value} (n : Nat), Vals xs us → Vals (xs.drop n) (us.drop n)
  | _, _, 0, r => r
  | _, _, _ + 1, .nil => .nil
  | _, _, n + 1, .cons _ t => Vals.drop n t

noncomputable def RelO : Option V → Option Value → Prop
  | some v, some u => RelV v u
  | none, none => True
  | _, _ => False
noncomputable def KV {κ : Type} : List (κ × V) → List (κ × Value) → Prop := Paired fun (p : κ × V) (q : κ × Value) => p.1 = q.1 ∧ RelV p.2 q.2

/-- a key of a dict (00_mix): an int or a text -/
noncomputable def kV : Key → V
  | .inl i => .int i
  | .inr x => .str x

/-- what stands at a tracked address -/
inductive HO where
  /-- a list -/
  | lst (xs : List V)
  /-- a tuple (never changes) -/
  | tup (xs : List V)
  /-- a dict whose keys are ints and texts; one whose keys are tuples of ints and texts (the empty one is both) -/
  | dK (kvs : List (Key × V)) | dT (kvs : List (List Key × V))
  /-- a set of ints: its members, its size -/
  | set (S : Int → Bool) (n : Nat)
  /-- an instance of the class at C, its dict at dx, its attributes -/
  | ins (C dx : Addr) (fs : List (Str × V))
  /-- the dict of the instance at x -/
  | own (x : Addr)
  /-- the dict of an exception -/
  | xd (fs : List (Str × V))
  /-- a bound method, f of x -/
  | met (f x : Addr)
  /-- a range object lo, lo + 1, .. below hi -/
  | rng (lo hi : Int)
  /-- a thing that is known to the object (the script; a dict while a loop walks it): read, never written while it is so -/
  | frz (o : Obj) (u : HO)
  /-- a code object's table -/
  | tbl (ps : Array Value)
  /-- any other thing, by what is true of its one object (a def of one's own: SetO a S n := HO.ext fun h => ..) -/
  | ext (φ : Heap → Prop)

noncomputable abbrev Hp := Addr → Option HO
noncomputable def upd (H : Hp) (a : Addr) (o : HO) : Hp := fun b => if b = a then some o else H b
theorem upd_same {H : Hp} {a : Addr} {o : HO} : upd H a o a = some o := by unfold upd; rw [if_pos rfl]
theorem upd_ne {H : Hp} {a b : Addr} {o : HO} (h : b ≠ a) : upd H a o b = H b := by unfold upd; rw [if_neg h]
/-- two objects of different content stand apart -/
theorem ne_of {H : Hp} {a b : Addr} {o u : HO} (h : H a = some o) (h' : H b = some u) (d : o ≠ u) : a ≠ b := by
  intro e; subst e; rw [h] at h'; exact d (Option.some.inj h')
theorem ne_of_none {H : Hp} {a b : Addr} {o : HO} (h : H a = some o) (h' : H b = none) : a ≠ b := by
  intro e; subst e; rw [h] at h'; cases h'

section
variable (P : Program) (w : World)
noncomputable def ObjOk (H : Hp) (h : Heap) (a : Addr) : HO → Prop
  | .lst xs => xs.length ≤ sizeLine ∧ ∃ (its : List Value) (n : Nat), Vals xs its ∧ h.get? a = some { cls := .type "list", data := .seq its.toArray n }
  | .tup xs => xs.length ≤ sizeLine ∧ ∃ its : List Value, Vals xs its ∧ IsTup h a its.toArray
  | .dK kvs => kvs.length ≤ sizeLine ∧ (a == sysModules) = false ∧ ∃ vs, KV kvs vs ∧ h.DictOf (mixKind P w) a vs
  | .dT kvs => kvs.length ≤ sizeLine ∧ (a == sysModules) = false ∧ ∃ xs : List (List Key × Addr × Value),
      Paired (fun (p : List Key × V) (q : List Key × Addr × Value) => p.1 = q.1 ∧ H q.2.1 = some (.tup (p.1.map kV)) ∧ RelV p.2 q.2.2) kvs xs ∧
      ∃ o es ep, h.get? a = some o ∧ o.ExactDict ∧ o.data = .dict es ep ∧ es.toList = xs.map (entryOfKey (tupleKind (mixKind P w))) ∧ (xs.map (·.1)).Nodup
  | .set S n => h.SetOf (intKind P w) a S n
  | .ins C dx fs => H dx = some (.own a) ∧ fs.length ≤ 1000 ∧ dx ≠ a ∧ h.get? a = some (PySem.W.instObj C dx) ∧
      ∃ mA, h.Ns1 dx mA ∧ (∀ f, RelO (fs.lookup f) (mA f)) ∧ PySem.Within mA (fs.map (·.1))
  | .own _ => ∃ o, h.get? a = some o
  | .xd fs => ∃ mA, h.Ns1 a mA ∧ ∀ f, RelO (fs.lookup f) (mA f)
  | .rng lo hi => ∃ t u v, h.get? a = some { cls := .type "range", data := .fields #[.int lo t, .int hi u, .int 1 v] }
  | .frz o u => h.get? a = some o ∧ ObjOk H h a u
  | .tbl ps => h.get? a = some { cls := .none, data := .fields ps }
  | .met f x => h.get? a = some (PySem.W.methodObj (.ref f) (.ref x))
  | .ext φ => φ h ∧ (∃ o, h.get? a = some o) ∧ ∀ h1 h2 : Heap, φ h1 → (∀ o, h1.get? a = some o → h2.get? a = some o) → φ h2
/-- the abstract heap is held -/
noncomputable def HOk (H : Hp) (h : Heap) : Prop := ∀ a o, H a = some o → ObjOk P w H h a o
end

section
variable {P : Program} {w : World} {H H' : Hp} {h h' : Heap} {a : Addr} {o : HO}
theorem ObjOk.lt (x : ObjOk P w H h a o) : a < h.objs.size := by
  cases o with
  | lst xs => obtain ⟨_, _, _, _, e⟩ := x; exact Heap.lt_size e
  | tup xs => obtain ⟨_, _, _, p⟩ := x; exact p.lt
  | dK kvs => obtain ⟨_, _, _, _, o, _, _, e, _⟩ := x; exact Heap.lt_size e
  | dT kvs => obtain ⟨_, _, _, _, o, _, _, e, _⟩ := x; exact Heap.lt_size e
  | set S n => obtain ⟨o, _, _, _, e, _⟩ := x; exact Heap.lt_size e
  | ins C dx fs => obtain ⟨_, _, _, e, _⟩ := x; exact Heap.lt_size e
  | own y => obtain ⟨_, e⟩ := x; exact Heap.lt_size e
  | xd fs => obtain ⟨_, ⟨_, _, _, e, _⟩, _⟩ := x; exact Heap.lt_size e
  | rng lo hi => obtain ⟨_, _, _, e⟩ := x; exact Heap.lt_size e
  | frz ob u => obtain ⟨e, _⟩ := x; exact Heap.lt_size e
  | tbl ps => exact Heap.lt_size (show h.get? a = some _ from x)
  | met f y => exact Heap.lt_size (show h.get? a = some _ from x)
  | ext φ => obtain ⟨_, ⟨_, e⟩, _⟩ := x; exact Heap.lt_size e
theorem Paired.mapP {α β : Type} {F G : α → β → Prop} : ∀ {l₁ : List α} {l₂ : List β}, Paired F l₁ l₂ → (∀ a b, F a b → G a b) → Paired G l₁ l₂
  | _, _, .nil, _ => .nil
  | _, _, .cons r t, f => .cons (f _ _ r) (Paired.mapP t f)
/-- what an object's description leans on: its own object, its own dict, the tuples -/
theorem ObjOk.stay (x : ObjOk P w H h a o) (k : ∀ b u, (b = a ∨ H b = some (.own a)) → h.get? b = some u → h'.get? b = some u)
    (ho : ∀ b, H b = some (.own a) → H' b = some (.own a)) (ht : ∀ b xs, H b = some (.tup xs) → H' b = some (.tup xs)) : ObjOk P w H' h' a o := by
  induction o with
  | lst xs => obtain ⟨z, its, n, r, e⟩ := x; exact ⟨z, its, n, r, k _ _ (.inl rfl) e⟩
  | tup xs => obtain ⟨z, its, r, ob, e, c⟩ := x; exact ⟨z, its, r, ob, k _ _ (.inl rfl) e, c⟩
  | dK kvs => obtain ⟨z, y, vs, r, ob, es, ep, e, c⟩ := x; exact ⟨z, y, vs, r, ob, es, ep, k _ _ (.inl rfl) e, c⟩
  | dT kvs =>
    obtain ⟨z, y, xs, r, ob, es, ep, e, c⟩ := x
    exact ⟨z, y, xs, Paired.mapP r fun p q z => ⟨z.1, ht _ _ z.2.1, z.2.2⟩, ob, es, ep, k _ _ (.inl rfl) e, c⟩
  | set S n => obtain ⟨ob, es, ep, t, e, c⟩ := x; exact ⟨ob, es, ep, t, k _ _ (.inl rfl) e, c⟩
  | ins C dx fs =>
    obtain ⟨d, z, ne, e, mA, ⟨od, es, ep, e2, c⟩, r⟩ := x
    exact ⟨ho _ d, z, ne, k _ _ (.inl rfl) e, mA, ⟨od, es, ep, k _ _ (.inr d) e2, c⟩, r⟩
  | own y => obtain ⟨ob, e⟩ := x; exact ⟨ob, k _ _ (.inl rfl) e⟩
  | xd fs => obtain ⟨mA, ⟨od, es, ep, e, c⟩, r⟩ := x; exact ⟨mA, ⟨od, es, ep, k _ _ (.inl rfl) e, c⟩, r⟩
  | rng lo hi => obtain ⟨t, u, v, e⟩ := x; exact ⟨t, u, v, k _ _ (.inl rfl) e⟩
  | frz ob u ih => obtain ⟨e, q⟩ := x; exact ⟨k _ _ (.inl rfl) e, ih q⟩
  | tbl ps =>
    have e : h.get? a = some { cls := .none, data := .fields ps } := x
    show h'.get? a = some { cls := .none, data := .fields ps }
    exact k a _ (.inl rfl) e
  | met f y =>
    have e : h.get? a = some (PySem.W.methodObj (.ref f) (.ref y)) := x
    show h'.get? a = some (PySem.W.methodObj (.ref f) (.ref y))
    exact k a _ (.inl rfl) e
  | ext φ => obtain ⟨p, ⟨o, e⟩, st⟩ := x; exact ⟨st _ _ p fun o q => k _ _ (.inl rfl) q, ⟨o, k _ _ (.inl rfl) e⟩, st⟩
theorem HOk.lt (x : HOk P w H h) (e : H a = some o) : a < h.objs.size := (x a o e).lt
theorem HOk.fresh (x : HOk P w H h) (e : h.objs.size ≤ a) : H a = none := by
  cases q : H a with
  | none => rfl
  | some u => exact absurd (Nat.lt_of_lt_of_le (x.lt q) e) (Nat.lt_irrefl _)
/-- every object of the heap is kept -/
theorem HOk.kept (x : HOk P w H h) (k : ∀ b u, h.get? b = some u → h'.get? b = some u) : HOk P w H h' := fun a o e =>
  (x a o e).stay (fun b u _ q => k b u q) (fun _ q => q) fun _ _ q => q
/-- a new object is laid and tracked -/
theorem HOk.laid (x : HOk P w H h) (k : ∀ b u, h.get? b = some u → h'.get? b = some u) (hp : h.objs.size ≤ a) (new : ObjOk P w (upd H a o) h' a o) : HOk P w (upd H a o) h' := fun b u e => by
  have hn := x.fresh hp
  by_cases hb : b = a
  · subst hb; rw [upd_same] at e; cases e; exact new
  · rw [upd_ne hb] at e
    exact (x b u e).stay (fun c v _ q => k c v q) (fun c q => by rw [upd_ne (ne_of_none q hn)]; exact q) fun c xs q => by rw [upd_ne (ne_of_none q hn)]; exact q
end

/-- what may be read as u: it is u, or a known u -/
noncomputable def Rd (H : Hp) (a : Addr) (u : HO) : Prop := H a = some u ∨ ∃ o, H a = some (.frz o u)
theorem Rd.ok {P : Program} {w : World} {H : Hp} {h : Heap} {a : Addr} {u : HO} (r : Rd H a u) (x : HOk P w H h) : ObjOk P w H h a u := by
  rcases r with r | ⟨o, r⟩
  · exact x a u r
  · obtain ⟨_, q⟩ := x a _ r
    exact q
/-- what may be written -/
noncomputable def Mut : Option HO → Prop
  | some (.lst _) => True
  | some (.dK _) => True
  | some (.dT _) => True
  | some (.set _ _) => True
  | some (.ins _ _ _) => True
  | some (.ext _) => True
  | _ => False
section
variable {P : Program} {w : World} {H : Hp} {h h' : Heap} {x e : Addr} {o' : HO}
/-- the object at e is changed: x itself, or the dict of the instance x -/
theorem HOk.write (ok : HOk P w H h) (mu : Mut (H x)) (he : e = x ∨ H e = some (.own x)) (k : ∀ b u, b ≠ e → h.get? b = some u → h'.get? b = some u) (heo : ∃ u, h'.get? e = some u)
    (new : ObjOk P w (upd H x o') h' x o') : HOk P w (upd H x o') h' := fun b u q => by
  have nown : ∀ c y, H c = some (.own y) → c ≠ x := fun c y r z => by subst z; rw [r] at mu; exact mu
  have ntup : ∀ c xs, H c = some (.tup xs) → c ≠ x := fun c xs r z => by subst z; rw [r] at mu; exact mu
  by_cases hb : b = x
  · subst hb; rw [upd_same] at q; cases q; exact new
  · rw [upd_ne hb] at q
    by_cases hbe : b = e
    · have q' : H b = some (.own x) := by
        rcases he with z | z
        · exact absurd (hbe.trans z) hb
        · rw [hbe]; exact z
      rw [q] at q'; cases q'
      obtain ⟨v, hv⟩ := heo
      exact ⟨v, by rw [hbe]; exact hv⟩
    · refine (ok b u q).stay (fun c v hc r => k c v ?_ r) (fun c r => by rw [upd_ne (nown c b r)]; exact r) fun c xs r => by rw [upd_ne (ntup c xs r)]; exact r
      rcases hc with rfl | hc
      · exact hbe
      · rintro rfl
        rcases he with z | z
        · exact nown c b hc z
        · rw [hc] at z; cases z; exact hb rfl
end

/-! ### kept unless tracked; of the frames at fs (the callers') the slots may change (an exception that passes writes there); of the records at ex (iterators) nothing is said -/
structure Un (fs ex : List Addr) (H H' : Hp) (h h' : Heap) : Prop where
  keep : ∀ b o, h.get? b = some o → H b = none → b ∉ fs → b ∉ ex → h'.get? b = some o
  slot : ∀ b o, h.get? b = some o → H b = none → b ∈ fs → b ∉ ex → ∃ sl, h'.get? b = some { o with slots := sl }
  free : ∀ b o, h.get? b = some o → H b = none → b ∉ ex → H' b = none
  there : ∀ b o, h.get? b = some o → b ∉ ex → ∃ o', h'.get? b = some o'
  tups : ∀ b xs, H b = some (.tup xs) → H' b = some (.tup xs)
  frzs : ∀ b o u, H b = some (.frz o u) → H' b = some (.frz o u)
  tbls : ∀ b ps, H b = some (.tbl ps) → ∃ more, H' b = some (.tbl (ps ++ more))
section
variable {fs fs' ex ex' : List Addr} {H H1 H2 : Hp} {h h1 h2 h' : Heap} {a x e : Addr} {o : HO}
theorem Un.any (u : Un fs ex H H1 h h1) {b : Addr} {ob : Obj} (q : h.get? b = some ob) (n : H b = none) (hx : b ∉ ex) : ∃ sl, h1.get? b = some { ob with slots := sl } := by
  by_cases hb : b ∈ fs
  · exact u.slot b ob q n hb hx
  · exact ⟨ob.slots, u.keep b ob q n hb hx⟩
theorem Un.kept (k : ∀ b u, h.get? b = some u → h'.get? b = some u) : Un fs ex H H h h' :=
  ⟨fun b ob q _ _ _ => k b ob q, fun b ob q _ _ _ => ⟨ob.slots, k b ob q⟩, fun _ _ _ n _ => n, fun b ob q _ => ⟨ob, k b ob q⟩, fun _ _ q => q, fun _ _ _ q => q, fun _ ps q => ⟨#[], by rw [q]; simp⟩⟩
theorem Un.refl : Un fs ex H H h h := Un.kept fun _ _ q => q
theorem Un.laid (k : ∀ b u, h.get? b = some u → h'.get? b = some u) (hp : h.objs.size ≤ a) (hn : H a = none) : Un fs ex H (upd H a o) h h' where
  keep := fun b u q _ _ _ => k b u q
  slot := fun b u q _ _ _ => ⟨u.slots, k b u q⟩
  free := fun b u q n _ => by rw [upd_ne (Nat.ne_of_lt (Nat.lt_of_lt_of_le (Heap.lt_size q) hp))]; exact n
  there := fun b u q _ => ⟨u, k b u q⟩
  tups := fun b xs q => by rw [upd_ne (ne_of_none q hn)]; exact q
  frzs := fun b u xs q => by rw [upd_ne (ne_of_none q hn)]; exact q
  tbls := fun b ps q => ⟨#[], by rw [upd_ne (ne_of_none q hn), q]; simp⟩
theorem Un.write (mu : Mut (H x)) (he : e = x ∨ H e = some (.own x)) (k : ∀ b u, b ≠ e → h.get? b = some u → h'.get? b = some u) (heo : ∃ u, h'.get? e = some u) : Un fs ex H (upd H x o) h h' := by
  have hx : ∀ b, H b = none → b ≠ x := fun b n z => by subst z; rw [n] at mu; exact mu
  have hb : ∀ b, H b = none → b ≠ e := fun b n z => by
    subst z
    rcases he with r | r
    · exact hx b n r
    · rw [n] at r; cases r
  have hm : ∀ b u, H b = some u → ¬ Mut (some u) → b ≠ x := fun b u q nm z => by subst z; rw [q] at mu; exact nm mu
  refine ⟨fun b u q n _ _ => k b u (hb b n) q, fun b u q n _ _ => ⟨u.slots, k b u (hb b n) q⟩, fun b u q n _ => by rw [upd_ne (hx b n)]; exact n, fun b u q _ => ?_,
    fun b xs q => by rw [upd_ne (hm b _ q fun z => z)]; exact q, fun b u xs q => by rw [upd_ne (hm b _ q fun z => z)]; exact q, fun b ps q => ⟨#[], by rw [upd_ne (hm b _ q fun z => z), q]; simp⟩⟩
  by_cases hbe : b = e
  · subst hbe; exact heo
  · exact ⟨u, k b u hbe q⟩
end

/-! ### the heap without what is tracked -/
noncomputable def trk (h : Heap) (H : Hp) : List Addr := (List.range h.objs.size).filter fun a => (H a).isSome
noncomputable def hidT (h : Heap) (H : Hp) : Heap := PySem.W.hideAll h (trk h H)
theorem hidT_size (h : Heap) (H : Hp) : (hidT h H).objs.size = h.objs.size := PySem.W.hideAll_size _ _
theorem hidT_get {h : Heap} {H : Hp} {b : Addr} {o : Obj} (e : h.get? b = some o) (n : H b = none) : (hidT h H).get? b = some o :=
  PySem.W.hideAll_get _ e fun hm => by
    have q : (H b).isSome = true := (List.mem_filter.mp hm).2
    rw [n] at q; simp at q
theorem of_hidT {h : Heap} {H : Hp} {b : Addr} {o : Obj} (e : (hidT h H).get? b = some o) : h.get? b = some o ∧ H b = none := by
  have e' : h.get? b = some o := PySem.W.of_hideAll (trk h H) e
  refine ⟨e', ?_⟩
  cases q : H b with
  | none => rfl
  | some x =>
    have hm : b ∈ trk h H := List.mem_filter.mpr ⟨List.mem_range.mpr (Heap.lt_size e'), by simp [q]⟩
    have z : (hidT h H).get? b = none := PySem.W.hideAll_none (trk h H) hm
    rw [z] at e; cases e

/-! ### OpenK's ledger, filled with every new object but one -/
end L2

namespace L2
open PySem PySem.Spec PyProof.Rows

/-- the module's facts, over the base: the heap at the law's entry without what is tracked there -/
structure Mod (K : PySem.W.Frag) (mg : Str → Option Value) (base : Heap) : Prop where
  kin : K.In base
  glob : base.Ns mainGlobals mg
  blt : ∃ mb, base.Ns builtinsNs mb ∧ ∀ x : Str, x ≠ "__name__" → mb x = bootBuiltins x
  nolimit : base.NoLimit

/-- the context: a def's body (or a comprehension's block) running. base: fixed through the whole law; s₀, H₀: the entry; outer: the frames whose slots others may change (a def's callers); stack: all frames that run;
   ex: iterators that were made ahead of the entry and are walked here (a comprehension's); fn: the names whose cells were made at the entry (a def: all; a comprehension's block: its own); calm: not within an except suite; pn: pins that every state bears; xe: what is wanted of an exception that leaves the code -/
structure Cx where
  prog : Program
  w : World
  K : PySem.W.Frag
  mg : Str → Option Value
  base : Heap
  A : Around
  N : List Str
  s₀ : Shared
  H₀ : Hp
  env : Env
  outer : List Env
  stack : List Env
  ex : List Addr
  fn : Str → Bool
  calm : Bool
  pn : List (Addr × Obj)
  xe : Value → Shared → Prop
/-- the callers' frames -/
noncomputable def frs (l : List Env) : List Addr := l.filterMap (·.frame)
noncomputable abbrev Cx.fs (X : Cx) : List Addr := frs X.outer

noncomputable def Vis (sc : Scope) (x : Str) : Prop := sc.names.lookup x = some .local ∨ sc.names.lookup x = some .cell ∨ sc.names.lookup x = some .free
noncomputable def Loc (sc : Scope) (x : Str) : Prop := sc.names.lookup x = some .local ∨ sc.names.lookup x = some .cell
noncomputable def Look (env : Env) (h : Heap) (m : Str → Option Value) (x : Str) (u : Value) : Prop :=
  (env.kindOf x = some .local ∧ m x = some u) ∨ ((env.kindOf x = some .cell ∨ env.kindOf x = some .free) ∧ ∃ c, env.cells.lookup x = some c ∧ h.IsCell c (some u))

structure Cx.Ok (X : Cx) : Prop where
  mod : Mod X.K X.mg X.base
  kind : X.env.scope.kind = .function
  glob : X.env.globals = mainGlobals
  blt : X.env.builtins = builtinsNs
  above : X.s₀.heap.objs.size ≤ X.env.locals
  inj : ∀ x y c, X.env.cells.lookup x = some c → X.env.cells.lookup y = some c → x = y
  has : ∀ x, (X.env.kindOf x = some .cell ∨ X.env.kindOf x = some .free) → ∃ c, X.env.cells.lookup x = some c
  cab : ∀ x c, X.fn x = true → X.env.cells.lookup x = some c → X.s₀.heap.objs.size ≤ c
  hd : X.calm = true → X.A.handled = none
  frames : X.A.frames = some X.stack
  stk : X.stack = X.outer ∨ (X.stack = X.env :: X.outer ∧ X.env.frame = some X.env.locals)
  exf : ∀ b ∈ X.ex, b ≠ X.env.locals ∧ ∀ x c, X.env.cells.lookup x = some c → c ≠ b
  bs : ∀ b o, X.base.get? b = some o → X.s₀.heap.get? b = some o ∧ X.H₀ b = none
  bsz : X.base.objs.size ≤ X.s₀.heap.objs.size
  noex : ∀ b o, X.base.get? b = some o → b ∉ X.ex
  exfs : ∀ b ∈ X.ex, b ∉ X.fs
  funs : X.s₀.heap.FunFrames X.base X.outer
  frf : ∀ b ∈ X.fs, X.H₀ b = none

structure Inv (X : Cx) (pins : List (Addr × Obj)) (σ : List (Option V)) (H : Hp) (s : Shared) : Prop where
  ok : X.Ok
  os : s.os = X.s₀.os
  bare : AllBare s.gens
  base : Un X.fs X.ex X.H₀ H X.s₀.heap s.heap
  loc : ∃ m, s.heap.Ns X.env.locals m ∧ ∀ (i : Nat) (x : Str) (v : V), X.N[i]? = some x → σ[i]? = some (some v) → Vis X.env.scope x → ∃ u, RelV v u ∧ Look X.env s.heap m x u
  cell : ∀ x c, X.env.cells.lookup x = some c → ∃ v, s.heap.IsCell c v
  free : H X.env.locals = none
  freeC : ∀ x c, X.env.cells.lookup x = some c → H c = none
  pin : ∀ p ∈ X.pn ++ pins, s.heap.get? p.1 = some p.2 ∧ H p.1 = none ∧ p.1 ≠ X.env.locals ∧ p.1 ∉ X.fs ∧ ∀ v, p.2.data ≠ .cell v
  hok : HOk X.prog X.w H s.heap
  len : σ.length = X.N.length

section
variable {X : Cx} {pins : List (Addr × Obj)} {σ : List (Option V)} {H H' : Hp} {s : Shared} {h' : Heap}

theorem Cx.Ok.nofr (ok : X.Ok) {b : Addr} {o : Obj} (e : X.base.get? b = some o) : b ∉ X.fs := fun hb => by
  have := (ok.funs.mem hb).1
  rw [e] at this; cases this
theorem Inv.bs (I : Inv X pins σ H s) : ∀ b o, X.base.get? b = some o → s.heap.get? b = some o ∧ H b = none := fun b o e =>
  ⟨I.base.keep b o (I.ok.bs b o e).1 (I.ok.bs b o e).2 (I.ok.nofr e) (I.ok.noex b o e), I.base.free b o (I.ok.bs b o e).1 (I.ok.bs b o e).2 (I.ok.noex b o e)⟩
theorem Inv.bk (I : Inv X pins σ H s) : ∀ b o, X.base.get? b = some o → s.heap.get? b = some o := fun b o e => (I.bs b o e).1
theorem Inv.mod (I : Inv X pins σ H s) : Mod X.K X.mg X.base := I.ok.mod
theorem Inv.kIn (I : Inv X pins σ H s) : X.K.In s.heap := I.ok.mod.kin.keeps I.bk
theorem Inv.lt (I : Inv X pins σ H s) : X.env.locals < s.heap.objs.size := let ⟨_, hn, _⟩ := I.loc; hn.lt
theorem Inv.sz (I : Inv X pins σ H s) : X.s₀.heap.objs.size ≤ s.heap.objs.size := Nat.le_trans I.ok.above (Nat.le_of_lt I.lt)
theorem Inv.nofs (I : Inv X pins σ H s) {a : Addr} (h : s.heap.objs.size ≤ a) : a ∉ X.fs := fun hb => by
  obtain ⟨_, o, ho, _⟩ := I.ok.funs.mem hb
  exact absurd (Nat.lt_of_lt_of_le (Heap.lt_size ho) (Nat.le_trans I.sz h)) (Nat.lt_irrefl _)
theorem Inv.cne (I : Inv X pins σ H s) : ∀ x c, X.env.cells.lookup x = some c → c ≠ X.env.locals := fun x c e z => by
  obtain ⟨v, o, ho, hd⟩ := I.cell x c e
  obtain ⟨m, ⟨o', es, ep, ho', hd', _⟩, _⟩ := I.loc
  rw [z, ho'] at ho; cases ho; rw [hd'] at hd; cases hd
theorem Inv.funs (I : Inv X pins σ H s) : s.heap.FunFrames X.base X.outer := by
  have all : ∀ (l : List Env), (∀ b ∈ frs l, b ∈ X.fs) → X.s₀.heap.FunFrames X.base l → s.heap.FunFrames X.base l := by
    intro l
    induction l with
    | nil => intro _ _; trivial
    | cons env r ih =>
      intro hs hl
      obtain ⟨hk, ⟨L, o, hf, hn, ho, hd⟩, hr⟩ := hl
      have hL : L ∈ X.fs := hs L (by unfold frs; rw [List.filterMap_cons, hf]; exact List.mem_cons_self)
      obtain ⟨sl, e⟩ := I.base.slot L o ho (I.ok.frf L hL) hL fun z => I.ok.exfs L z hL
      exact ⟨hk, ⟨L, _, hf, hn, e, hd⟩, ih (fun b hb => hs b (by unfold frs; rw [List.filterMap_cons, hf]; exact List.mem_cons_of_mem _ hb)) hr⟩
  exact all X.outer (fun _ hb => hb) I.ok.funs

/-- the frames that run, for a call -/
theorem Inv.stack (I : Inv X pins σ H s) : s.heap.FunFrames X.base X.stack := by
  rcases I.ok.stk with e | ⟨e, hf⟩
  · rw [e]; exact I.funs
  · rw [e]
    obtain ⟨m, hn, _⟩ := I.loc
    refine .cons (by rw [I.ok.kind]; decide) hf hn ?_ I.funs
    exact Heap.get?_none_of_le (Nat.le_trans I.ok.bsz I.ok.above)
theorem Inv.stkSub (I : Inv X pins σ H s) : ∀ b ∈ frs X.stack, b ∈ X.env.locals :: X.fs := fun b hb => by
  rcases I.ok.stk with e | ⟨e, hf⟩
  · rw [e] at hb; exact List.mem_cons_of_mem _ hb
  · rw [e] at hb
    unfold frs at hb
    rw [List.filterMap_cons, hf] at hb
    exact hb
theorem Inv.stkFree (I : Inv X pins σ H s) : ∀ b ∈ frs X.stack, H b = none := fun b hb => by
  rcases List.mem_cons.mp (I.stkSub b hb) with e | hb
  · rw [e]; exact I.free
  · obtain ⟨_, o, ho, _⟩ := I.ok.funs.mem hb
    exact I.base.free b o ho (I.ok.frf b hb) fun z => I.ok.exfs b z hb

/-- THE STEP: the untracked objects but the frame and the records at ch are kept (the callers' frames up to slots), the frame's map is kept, the new abstract heap is held -/
theorem Inv.step {g' : Array GenState} {t' : Nat} {d' : Drawn} {ch : List Addr} (I : Inv X pins σ H s)
    (hch : ∀ b ∈ ch, (b ∈ X.ex ∨ X.s₀.heap.objs.size ≤ b) ∧ b ≠ X.env.locals ∧ (∀ x c, X.env.cells.lookup x = some c → c ≠ b) ∧ ∀ p ∈ X.pn ++ pins, p.1 ≠ b)
    (keep : ∀ b o, b ≠ X.env.locals → b ∉ X.fs → b ∉ ch → s.heap.get? b = some o → H b = none → h'.get? b = some o)
    (slot : ∀ b o, b ≠ X.env.locals → b ∈ X.fs → b ∉ ch → s.heap.get? b = some o → H b = none → ∃ sl, h'.get? b = some { o with slots := sl }) (free : ∀ b o, b ∉ ch → s.heap.get? b = some o → H b = none → H' b = none)
    (there : ∀ b o, b ∉ ch → s.heap.get? b = some o → ∃ o', h'.get? b = some o')
    (tups : ∀ b xs, H b = some (.tup xs) → H' b = some (.tup xs)) (frzs : ∀ b o u, H b = some (.frz o u) → H' b = some (.frz o u)) (tbls : ∀ b ps, H b = some (.tbl ps) → ∃ more, H' b = some (.tbl (ps ++ more)))
    (ns : ∀ m, s.heap.Ns X.env.locals m → h'.Ns X.env.locals m) (hok : HOk X.prog X.w H' h') (hg : AllBare g') :
    Inv X pins σ H' { s with heap := h', gens := g', drawn := d', toks := t' } := by
  have neL : ∀ b o, X.s₀.heap.get? b = some o → b ≠ X.env.locals := fun b o e => Nat.ne_of_lt (Nat.lt_of_lt_of_le (Heap.lt_size e) I.ok.above)
  have neC : ∀ b o, X.s₀.heap.get? b = some o → b ∉ X.ex → b ∉ ch := fun b o e hx hb => by
    rcases (hch b hb).1 with z | z
    · exact hx z
    · exact absurd (Nat.lt_of_lt_of_le (Heap.lt_size e) z) (Nat.lt_irrefl _)
  have cellK : ∀ x c, X.env.cells.lookup x = some c → ∀ v, s.heap.IsCell c v → h'.IsCell c v := fun x c e v ⟨o, ho, hd⟩ => by
    have nch : c ∉ ch := fun z => (hch c z).2.2.1 x c e rfl
    by_cases hc : c ∈ X.fs
    · obtain ⟨sl, q⟩ := slot c o (I.cne x c e) hc nch ho (I.freeC x c e)
      exact ⟨_, q, hd⟩
    · exact ⟨o, keep c o (I.cne x c e) hc nch ho (I.freeC x c e), hd⟩
  refine ⟨I.ok, I.os, hg, ⟨fun b o e n hb hx => ?_, fun b o e n hb hx => ?_, fun b o e n hx => ?_, fun b o e hx => ?_, fun b xs e => tups b xs (I.base.tups b xs e), fun b o xs e => frzs b o xs (I.base.frzs b o xs e), fun b ps e => ?_⟩, ?_, fun x c e => ?_, ?_, fun x c e => ?_, fun p hp => ?_, hok, I.len⟩
  · exact keep b o (neL b o e) hb (neC b o e hx) (I.base.keep b o e n hb hx) (I.base.free b o e n hx)
  · obtain ⟨sl, e1⟩ := I.base.slot b o e n hb hx
    obtain ⟨sl', e2⟩ := slot b _ (neL b o e) hb (neC b o e hx) e1 (I.base.free b o e n hx)
    exact ⟨sl', e2⟩
  · obtain ⟨o', e1⟩ := I.base.there b o e hx
    exact free b o' (neC b o e hx) e1 (I.base.free b o e n hx)
  · obtain ⟨o', e1⟩ := I.base.there b o e hx
    exact there b o' (neC b o e hx) e1
  · obtain ⟨m1, e1⟩ := I.base.tbls b ps e
    obtain ⟨m2, e2⟩ := tbls b _ e1
    exact ⟨m1 ++ m2, by rw [e2, Array.append_assoc]⟩
  · obtain ⟨m, hn, hl⟩ := I.loc
    refine ⟨m, ns m hn, fun i x v e1 e2 e3 => ?_⟩
    obtain ⟨u, r, l⟩ := hl i x v e1 e2 e3
    refine ⟨u, r, ?_⟩
    rcases l with l | ⟨k, c, e, z⟩
    · exact .inl l
    · exact .inr ⟨k, c, e, cellK x c e _ z⟩
  · obtain ⟨v, z⟩ := I.cell x c e
    exact ⟨v, cellK x c e v z⟩
  · obtain ⟨m, ⟨o, _, _, ho, _⟩, _⟩ := I.loc
    exact free _ o (fun z => (hch _ z).2.1 rfl) ho I.free
  · obtain ⟨v, o, ho, hd⟩ := I.cell x c e
    exact free c o (fun z => (hch c z).2.2.1 x c e rfl) ho (I.freeC x c e)
  · obtain ⟨e, n, ne, nf, d⟩ := I.pin p hp
    have nch : p.1 ∉ ch := fun z => (hch p.1 z).2.2.2 p hp rfl
    exact ⟨keep p.1 p.2 ne nf nch e n, free p.1 p.2 nch e n, ne, nf, d⟩
/-- .. where the frame's own object is kept too -/
theorem Inv.un {t' : Nat} (I : Inv X pins σ H s) (u : Un X.fs [] H H' s.heap h') (hok : HOk X.prog X.w H' h') : Inv X pins σ H' { s with heap := h', toks := t' } := by
  obtain ⟨m, ⟨o, es, ep, ho, r⟩, _⟩ := id I.loc
  obtain ⟨sl, hL⟩ := u.any ho I.free (by simp)
  exact I.step (g' := s.gens) (d' := s.drawn) (ch := []) (fun _ z => nomatch z) (fun b o _ hb _ e n => u.keep b o e n hb (by simp)) (fun b o _ hb _ e n => u.slot b o e n hb (by simp)) (fun b o _ e n => u.free b o e n (by simp)) (fun b o _ e => u.there b o e (by simp)) u.tups u.frzs u.tbls (fun m' hm => by
    obtain ⟨o', es', ep', ho', r'⟩ := hm
    rw [ho] at ho'; cases ho'
    exact ⟨_, es', ep', hL, r'⟩) hok I.bare
/-- behind a call (or a comprehension's block): the slots of this frame may have changed too, the records at ch may have turned -/
theorem Inv.call {g' : Array GenState} {t' : Nat} {d' : Drawn} {ch : List Addr} (I : Inv X pins σ H s) (u : Un (frs X.stack) ch H H' s.heap h') (hok : HOk X.prog X.w H' h') (hg : AllBare g')
    (hch : ∀ b ∈ ch, (b ∈ X.ex ∨ X.s₀.heap.objs.size ≤ b) ∧ b ≠ X.env.locals ∧ (∀ x c, X.env.cells.lookup x = some c → c ≠ b) ∧ ∀ p ∈ X.pn ++ pins, p.1 ≠ b) :
    Inv X pins σ H' { s with heap := h', gens := g', drawn := d', toks := t' } := by
  obtain ⟨m, ⟨o, es, ep, ho, r⟩, _⟩ := id I.loc
  obtain ⟨sl, hL⟩ := u.any ho I.free fun z => (hch _ z).2.1 rfl
  exact I.step (ch := ch) hch (fun b o hL hb hc e n => u.keep b o e n (fun z => (List.mem_cons.mp (I.stkSub b z)).elim hL hb) hc) (fun b o _ _ hc e n => u.any e n hc) (fun b o hc e n => u.free b o e n hc) (fun b o hc e => u.there b o e hc) u.tups u.frzs u.tbls (fun m' hm => by
    obtain ⟨o', es', ep', ho', r'⟩ := hm
    rw [ho] at ho'; cases ho'
    exact ⟨_, es', ep', hL, r'⟩) hok hg
/-- an untracked record of ours (an iterator) has turned -/
theorem Inv.turned {t' : Nat} {it : Addr} (I : Inv X pins σ H s) (k : ∀ b o, b ≠ it → s.heap.get? b = some o → h'.get? b = some o) (hn : H it = none) (hL : it ≠ X.env.locals)
    (h1 : it ∈ X.ex ∨ X.s₀.heap.objs.size ≤ it) (h2 : ∀ x c, X.env.cells.lookup x = some c → c ≠ it) (h3 : ∀ p ∈ X.pn ++ pins, p.1 ≠ it) : Inv X pins σ H { s with heap := h', toks := t' } := by
  have nit : ∀ b u, H b = some u → b ≠ it := fun b u e z => by rw [z, hn] at e; cases e
  refine I.step (g' := s.gens) (d' := s.drawn) (ch := [it]) (fun b hb => ?_) (fun b o _ _ hc e _ => k b o (fun z => hc (by simp [z])) e) (fun b o _ _ hc e _ => ⟨o.slots, k b o (fun z => hc (by simp [z])) e⟩) (fun _ _ _ _ n => n)
    (fun b o hc e => ⟨o, k b o (fun z => hc (by simp [z])) e⟩) (fun _ _ e => e) (fun _ _ _ e => e) (fun b ps e => ⟨#[], by rw [e]; simp⟩) (fun m hm => ?_) (fun b u e => ?_) I.bare
  · have e : b = it := by simpa using hb
    subst e
    exact ⟨h1, hL, h2, h3⟩
  · obtain ⟨o, es, ep, ho, r⟩ := hm
    exact ⟨o, es, ep, k _ o (Ne.symm hL) ho, r⟩
  · refine (I.hok b u e).stay (fun c v hc q => k c v ?_ q) (fun _ q => q) fun _ _ q => q
    rcases hc with z | z
    · rw [z]; exact nit b u e
    · exact nit c _ z
theorem Inv.tok (I : Inv X pins σ H s) (t : Nat) : Inv X pins σ H { s with toks := t } := I.un (h' := s.heap) (t' := t) Un.refl I.hok
/-- all objects kept -/
theorem Inv.kept {t' : Nat} (I : Inv X pins σ H s) (k : ∀ b u, s.heap.get? b = some u → h'.get? b = some u) : Inv X pins σ H { s with heap := h', toks := t' } := I.un (Un.kept k) (I.hok.kept k)
/-- a new object laid and tracked -/
theorem Inv.laid {a : Addr} {o : HO} {t' : Nat} (I : Inv X pins σ H s) (k : ∀ b u, s.heap.get? b = some u → h'.get? b = some u) (hp : s.heap.objs.size ≤ a) (new : ObjOk X.prog X.w (upd H a o) h' a o) :
    Inv X pins σ (upd H a o) { s with heap := h', toks := t' } := I.un (Un.laid k hp (I.hok.fresh hp)) (I.hok.laid k hp new)
/-- an object written -/
theorem Inv.write {x e : Addr} {o : HO} {t' : Nat} (I : Inv X pins σ H s) (mu : Mut (H x)) (he : e = x ∨ H e = some (.own x)) (k : ∀ b u, b ≠ e → s.heap.get? b = some u → h'.get? b = some u) (heo : ∃ u, h'.get? e = some u)
    (new : ObjOk X.prog X.w (upd H x o) h' x o) : Inv X pins σ (upd H x o) { s with heap := h', toks := t' } := I.un (Un.write mu he k heo) (I.hok.write mu he k heo new)
theorem Inv.pins_of {pins' : List (Addr × Obj)} (I : Inv X pins σ H s) (h : ∀ p ∈ pins', s.heap.get? p.1 = some p.2 ∧ H p.1 = none ∧ p.1 ≠ X.env.locals ∧ p.1 ∉ X.fs ∧ ∀ v, p.2.data ≠ .cell v) : Inv X pins' σ H s :=
  ⟨I.ok, I.os, I.bare, I.base, I.loc, I.cell, I.free, I.freeC, fun p hp => (List.mem_append.mp hp).elim (fun z => I.pin p (List.mem_append_left _ z)) (h p), I.hok, I.len⟩

theorem nodup_ix {N : List Str} (hN : N.Nodup) {i j : Nat} {x : Str} (a : N[i]? = some x) (b : N[j]? = some x) : i = j := by
  obtain ⟨h1, e1⟩ := List.getElem?_eq_some_iff.mp a
  obtain ⟨h2, e2⟩ := List.getElem?_eq_some_iff.mp b
  exact (List.getElem_inj hN).mp (e1.trans e2.symm)

/-- a name is stored; what changed -/
theorem store_ok2 {M : Model} {A : Around} {E : Value → Shared → Prop} {i : Nat} {x : Str} {v : V} {u : Value} {Q : Unit → Shared → Prop} (I : Inv X pins σ H s) (hN : X.N.Nodup) (hi : X.N[i]? = some x) (hx : Loc X.env.scope x) (r : RelV v u)
    (h : ∀ s', Inv X pins (σ.set i (some v)) H s' → (∃ a, Heap.SameBut a s.heap s'.heap ∧ (a = X.env.locals ∨ X.env.cells.lookup x = some a)) → Q () s') (hf : X.fn x = true ∨ X.env.scope.names.lookup x = some .local := by first | exact .inl rfl | exact .inr rfl | assumption) : wpAny M A (storeName X.env x u) Q E s := by
  obtain ⟨m, hn, hl⟩ := id I.loc
  have hcls : (X.env.scope.kind == .class || (X.env.scope.kind == .module && X.env.locals != X.env.globals)) = false := by rw [I.ok.kind]; rfl
  have hiσ : i < σ.length := by rw [I.len]; exact (List.getElem?_eq_some_iff.mp hi).1
  have cne := I.cne
  have tracked : ∀ {a : Addr} {h' : Heap}, (∃ o, s.heap.get? a = some o ∧ H a = none) → Heap.SameBut a s.heap h' → HOk X.prog X.w H h' := fun {a h'} ha hs b ob e => by
    obtain ⟨_, _, hfree⟩ := ha
    refine (I.hok b ob e).stay (fun c w' hc q => (hs.2 c ?_).trans q) (fun _ q => q) fun _ _ q => q
    rintro rfl
    rcases hc with rfl | hc
    · rw [hfree] at e; cases e
    · rw [hfree] at hc; cases hc
  rcases hx with hk | hk
  · refine wpAny_storeName_local hk hn (fun h' hn' hs => ?_) hcls
    obtain ⟨oL, _, _, hoL, _⟩ := id hn
    refine h _ ⟨I.ok, I.os, I.bare, ⟨fun b o e n hb hx => ?_, fun b o e n hb hx => ?_, I.base.free, fun b o e hx => ?_, I.base.tups, I.base.frzs, I.base.tbls⟩, ⟨_, hn', fun j y v' e1 e2 e3 => ?_⟩, fun y c e => ?_, I.free, I.freeC, fun p hp => ?_, tracked ⟨oL, hoL, I.free⟩ hs, by simpa using I.len⟩ ⟨_, hs, .inl rfl⟩
    · exact (hs.2 b (Nat.ne_of_lt (Nat.lt_of_lt_of_le (Heap.lt_size e) I.ok.above))).trans (I.base.keep b o e n hb hx)
    · obtain ⟨sl, e1⟩ := I.base.slot b o e n hb hx
      exact ⟨sl, (hs.2 b (Nat.ne_of_lt (Nat.lt_of_lt_of_le (Heap.lt_size e) I.ok.above))).trans e1⟩
    · obtain ⟨o', e1⟩ := I.base.there b o e hx
      exact ⟨o', (hs.2 b (Nat.ne_of_lt (Nat.lt_of_lt_of_le (Heap.lt_size e) I.ok.above))).trans e1⟩
    · by_cases hj : j = i
      · subst hj
        rw [hi] at e1; cases e1
        rw [List.getElem?_set_self hiσ] at e2
        cases e2
        exact ⟨u, r, .inl ⟨hk, by simp⟩⟩
      · rw [List.getElem?_set_ne (Ne.symm hj)] at e2
        obtain ⟨u', r', q⟩ := hl j y v' e1 e2 e3
        refine ⟨u', r', ?_⟩
        rcases q with ⟨k, e⟩ | ⟨k, c, e, z⟩
        · refine .inl ⟨k, ?_⟩
          have : y ≠ x := fun e => hj (nodup_ix hN e1 (e ▸ hi))
          simp [this, e]
        · exact .inr ⟨k, c, e, z.sameBut hs (cne y c e)⟩
    · obtain ⟨w', z⟩ := I.cell y c e
      exact ⟨w', z.sameBut hs (cne y c e)⟩
    · obtain ⟨e, n, ne, nf, d⟩ := I.pin p hp
      exact ⟨(hs.2 p.1 ne).trans e, n, ne, nf, d⟩
  · have hfn : X.fn x = true := by
      rcases hf with z | z
      · exact z
      · rw [z] at hk; cases hk
    obtain ⟨c, hc⟩ := I.ok.has x (.inl hk)
    obtain ⟨w', z⟩ := I.cell x c hc
    refine wpAny_storeName_cell I.ok.kind hk hc z (fun h' hc' hs => ?_)
    obtain ⟨oc, hoc, hocd⟩ := id z
    refine h { s with heap := h' } ⟨I.ok, I.os, I.bare, ⟨fun b o e n hb hx => ?_, fun b o e n hb hx => ?_, I.base.free, fun b o e hx => ?_, I.base.tups, I.base.frzs, I.base.tbls⟩, ⟨m, hn.sameBut hs (Ne.symm (cne x c hc)), fun j y v' e1 e2 e3 => ?_⟩, fun y c' e => ?_, I.free, I.freeC, fun p hp => ?_, tracked ⟨oc, hoc, I.freeC x c hc⟩ hs, by simpa using I.len⟩ ⟨c, hs, .inr hc⟩
    · exact (hs.2 b (Nat.ne_of_lt (Nat.lt_of_lt_of_le (Heap.lt_size e) (I.ok.cab x c hfn hc)))).trans (I.base.keep b o e n hb hx)
    · obtain ⟨sl, e1⟩ := I.base.slot b o e n hb hx
      exact ⟨sl, (hs.2 b (Nat.ne_of_lt (Nat.lt_of_lt_of_le (Heap.lt_size e) (I.ok.cab x c hfn hc)))).trans e1⟩
    · obtain ⟨o', e1⟩ := I.base.there b o e hx
      exact ⟨o', (hs.2 b (Nat.ne_of_lt (Nat.lt_of_lt_of_le (Heap.lt_size e) (I.ok.cab x c hfn hc)))).trans e1⟩
    · by_cases hj : j = i
      · subst hj
        rw [hi] at e1; cases e1
        rw [List.getElem?_set_self hiσ] at e2
        cases e2
        exact ⟨u, r, .inr ⟨.inl hk, c, hc, hc'⟩⟩
      · rw [List.getElem?_set_ne (Ne.symm hj)] at e2
        obtain ⟨u', r', q⟩ := hl j y v' e1 e2 e3
        refine ⟨u', r', ?_⟩
        rcases q with q | ⟨k, c', e, z'⟩
        · exact .inl q
        · refine .inr ⟨k, c', e, z'.sameBut hs ?_⟩
          rintro rfl
          exact hj (nodup_ix hN e1 (I.ok.inj _ _ _ e hc ▸ hi))
    · by_cases hcc : c' = c
      · subst hcc; exact ⟨_, hc'⟩
      · obtain ⟨w2, z2⟩ := I.cell y c' e
        exact ⟨w2, z2.sameBut hs hcc⟩
    · obtain ⟨e, n, ne, nf, d⟩ := I.pin p hp
      refine ⟨(hs.2 p.1 ?_).trans e, n, ne, nf, d⟩
      intro q
      rw [q, hoc] at e
      have q' : oc = p.2 := Option.some.inj e
      exact d w' (by rw [← q']; exact hocd)
theorem store_ok {M : Model} {A : Around} {E : Value → Shared → Prop} {i : Nat} {x : Str} {v : V} {u : Value} {Q : Unit → Shared → Prop} (I : Inv X pins σ H s) (hN : X.N.Nodup) (hi : X.N[i]? = some x) (hx : Loc X.env.scope x) (r : RelV v u)
    (h : ∀ s', Inv X pins (σ.set i (some v)) H s' → Q () s') (hf : X.fn x = true ∨ X.env.scope.names.lookup x = some .local := by first | exact .inl rfl | exact .inr rfl | assumption) : wpAny M A (storeName X.env x u) Q E s :=
  store_ok2 I hN hi hx r (fun s' I' _ => h s' I') hf
/-- behind a call or a block, the state as it is -/
theorem Inv.call' {s' : Shared} {ch : List Addr} (I : Inv X pins σ H s) (ho : s'.os = s.os) (u : Un (frs X.stack) ch H H' s.heap s'.heap) (hok : HOk X.prog X.w H' s'.heap) (hg : AllBare s'.gens)
    (hch : ∀ b ∈ ch, (b ∈ X.ex ∨ X.s₀.heap.objs.size ≤ b) ∧ b ≠ X.env.locals ∧ (∀ x c, X.env.cells.lookup x = some c → c ≠ b) ∧ ∀ p ∈ X.pn ++ pins, p.1 ≠ b) : Inv X pins σ H' s' := by
  obtain ⟨h', g', d', t', o'⟩ := s'
  have e : o' = s.os := ho
  subst e
  exact I.call (g' := g') (t' := t') (d' := d') u hok hg hch
end

/-! ### the judgements -/
/-- an exception: its class, its own dict's address (where it has one), the abstract heap behind it -/
noncomputable abbrev XK := Value → Option Addr → Hp → Prop
noncomputable abbrev St := List (Option V)
noncomputable abbrev VK := V → Hp → Prop
/-- an expression's reading; a test's; an argument list's -/
noncomputable abbrev TE := St → Hp → VK → Prop
noncomputable abbrev TT := St → Hp → (Bool → Hp → Prop) → Prop
noncomputable abbrev TA := St → Hp → (List V → Hp → Prop) → Prop
/-- what is wanted behind a statement -/
structure Ends where
  nx : St → Hp → Prop
  rt : VK
  bk : St → Hp → Prop := fun _ _ => False
  ct : St → Hp → Prop := fun _ _ => False
noncomputable abbrev TS := Ends → St → Hp → Prop

noncomputable def EP (X : Cx) (pins : List (Addr × Obj)) (σ : St) (Q : VK) (u : Value) (s' : Shared) : Prop := ∃ v H', Inv X pins σ H' s' ∧ RelV v u ∧ Q v H'
noncomputable def TP (X : Cx) (pins : List (Addr × Obj)) (σ : St) (Q : Bool → Hp → Prop) (b : Bool) (s' : Shared) : Prop := ∃ H', Inv X pins σ H' s' ∧ Q b H'
noncomputable def AP (X : Cx) (pins : List (Addr × Obj)) (σ : St) (Q : List V → Hp → Prop) (us : List Value) (s' : Shared) : Prop := ∃ vs H', Inv X pins σ H' s' ∧ Vals vs us ∧ Q vs H'
noncomputable def SP (X : Cx) (pins : List (Addr × Obj)) (D : Ends) (f : Flow) (s' : Shared) : Prop :=
  match f with
  | .next => ∃ σ' H', Inv X pins σ' H' s' ∧ D.nx σ' H'
  | .brk => ∃ σ' H', Inv X pins σ' H' s' ∧ D.bk σ' H'
  | .cont => ∃ σ' H', Inv X pins σ' H' s' ∧ D.ct σ' H'
  | .ret u => ∃ v σ' H', Inv X pins σ' H' s' ∧ RelV v u ∧ D.rt v H'

noncomputable def PE (X : Cx) (e : Expr) (t : TE) : Prop :=
  ∀ (pins : List (Addr × Obj)) (s : Shared) (σ : St) (H : Hp) (Q : VK), Inv X pins σ H s → t σ H Q → wpAny (model X.prog X.w) X.A (eval e X.env) (EP X pins σ Q) X.xe s
noncomputable def PT (X : Cx) (e : Expr) (t : TT) : Prop :=
  ∀ (pins : List (Addr × Obj)) (s : Shared) (σ : St) (H : Hp) (Q : Bool → Hp → Prop), Inv X pins σ H s → t σ H Q → wpAny (model X.prog X.w) X.A (isTrue e X.env (eval e X.env)) (TP X pins σ Q) X.xe s
/-- a test whatever its 'whole' is (and, or) -/
noncomputable def PW (X : Cx) (e : Expr) (t : TT) : Prop :=
  ∀ (whole : Sem Value) (pins : List (Addr × Obj)) (s : Shared) (σ : St) (H : Hp) (Q : Bool → Hp → Prop), Inv X pins σ H s → t σ H Q → wpAny (model X.prog X.w) X.A (isTrue e X.env whole) (TP X pins σ Q) X.xe s
theorem PW.pt {X : Cx} {e : Expr} {t : TT} (h : PW X e t) : PT X e t := h _
/-- an argument list (no star), from the left -/
noncomputable def PA (X : Cx) (es : List Expr) (t : TA) : Prop :=
  ∀ (pos : Pos) (pins : List (Addr × Obj)) (s : Shared) (σ : St) (H : Hp) (Q : List V → Hp → Prop), Inv X pins σ H s → t σ H Q → wpAny (model X.prog X.w) X.A (spliced (backTo pos (starEach es X.env))) (AP X pins σ Q) X.xe s
noncomputable def PS (X : Cx) (st : Stmt) (t : TS) : Prop :=
  ∀ (pins : List (Addr × Obj)) (s : Shared) (σ : St) (H : Hp) (D : Ends), Inv X pins σ H s → t D σ H → wpAny (model X.prog X.w) X.A (exec st X.env) (SP X pins D) X.xe s
noncomputable def PSs (X : Cx) (st : List Stmt) (t : TS) : Prop :=
  ∀ (pins : List (Addr × Obj)) (s : Shared) (σ : St) (H : Hp) (D : Ends), Inv X pins σ H s → t D σ H → wpAny (model X.prog X.w) X.A (execs st X.env) (SP X pins D) X.xe s
/-- weaken the end -/
theorem thn {α : Type} {t : Sem α} {Q Q' : α → Shared → Prop} {M : Model} {A : Around} {E : Value → Shared → Prop} {s : Shared} (h : wpAny M A t Q E s) (hQ : ∀ a s, Q a s → Q' a s) : wpAny M A t Q' E s := wpAny_mono h hQ fun _ _ x => x
end L2

namespace L2
open PySem PySem.Spec PyProof.Rows
section
variable {X : Cx}


/-! ### names and constants -/
noncomputable def tVar (i : Nat) : TE := fun σ H Q => ∃ v, σ[i]? = some (some v) ∧ Q v H
noncomputable def tC (v : V) : TE := fun _ H Q => Q v H
theorem pe_var {i : Nat} {x : Str} {pos : Pos} (hN : X.N[i]? = some x) (hv : Vis X.env.scope x) (hd : (x == ("__debug__" : Str)) = false := by decide) (hcd : (x == ("__classdict__" : Str)) = false := by decide) : PE X (.Name x pos) (tVar i) := by
  intro pins s σ H Q I h
  obtain ⟨v, e, h⟩ := h
  obtain ⟨m, hn, hl⟩ := I.loc
  obtain ⟨u, r, l⟩ := hl i x v hN e hv
  have fin : EP X pins σ Q u s := ⟨v, H, I, r, h⟩
  rcases l with ⟨hk, hm⟩ | ⟨hk, c, hc, hcell⟩
  · exact wpAny_Name (wpAny_loadName_local I.ok.kind hk hn hm fin) hd
  · rcases hk with hk | hk
    · exact wpAny_Name (wpAny_loadName_cell I.ok.kind hk hc hcell fin) hd
    · exact wpAny_Name (wpAny_loadName_free I.ok.kind hk hc hcell fin hcd) hd
theorem pe_int {i j pos} : PE X (.Constant (.int i) j pos) (tC (.int i)) := fun _ _ _ H _ I h => wpAny_Constant_int ⟨.int i, H, I.tok _, ⟨_, rfl⟩, h⟩
theorem pe_bl {b j pos} : PE X (.Constant (.bool b) j pos) (tC (.bl b)) := fun _ _ _ H _ I h => Constant_bool ⟨.bl b, H, I, rfl, h⟩
theorem pe_str {x j pos} : PE X (.Constant (.str x) j pos) (tC (.str x)) := fun _ _ _ H _ I h => Calls.Constant_str ⟨.str x, H, I.tok _, ⟨_, rfl⟩, h⟩

/-- a global name of the def -/
noncomputable def Gl (X : Cx) (x : Str) : Prop := X.env.kindOf x = some .globalImplicit
theorem ld_glob {E : Value → Shared → Prop} {pins : List (Addr × Obj)} {s : Shared} {σ : St} {H : Hp} {x : Str} {u : Value} {pos : Pos} {Q : Value → Shared → Prop} (I : Inv X pins σ H s) (hg : Gl X x) (hm : X.mg x = some u) (h : Q u s)
    (hd : (x == ("__debug__" : Str)) = false := by decide) : wpAny (model X.prog X.w) X.A (eval (.Name x pos) X.env) Q E s :=
  Calls.Name_function_global I.ok.kind hg (Calls.loadGlobal_global (by rw [I.ok.glob]; exact I.mod.glob.keeps I.bk) hm h) hd
theorem ld_blt {E : Value → Shared → Prop} {pins : List (Addr × Obj)} {s : Shared} {σ : St} {H : Hp} {x : Str} {u : Value} {pos : Pos} {Q : Value → Shared → Prop} (I : Inv X pins σ H s) (hg : Gl X x) (hm : X.mg x = none) (hv : bootBuiltins x = some u) (h : Q u s)
    (hn : x ≠ "__name__" := by decide) (hd : (x == ("__debug__" : Str)) = false := by decide) : wpAny (model X.prog X.w) X.A (eval (.Name x pos) X.env) Q E s := by
  obtain ⟨mb, h1, h2⟩ := I.mod.blt
  exact Calls.Name_function_global I.ok.kind hg (Calls.loadGlobal_builtin (by rw [I.ok.glob]; exact I.mod.glob.keeps I.bk) hm (by rw [I.ok.blt]; exact h1.keeps I.bk) ((h2 x hn).trans hv) h) hd
/-- a module's constant, a class, a function, as a value -/
theorem pe_glob {x : Str} {v : V} {u : Value} {pos : Pos} (hg : Gl X x) (hm : X.mg x = some u) (r : RelV v u) (hd : (x == ("__debug__" : Str)) = false := by decide) : PE X (.Name x pos) (tC v) :=
  fun _ _ _ H _ I h => ld_glob I hg hm ⟨v, H, I, r, h⟩ hd
theorem pe_bltn {x : Str} {v : V} {u : Value} {pos : Pos} (hg : Gl X x) (hm : X.mg x = none) (hv : bootBuiltins x = some u) (r : RelV v u) (hn : x ≠ "__name__" := by decide) (hd : (x == ("__debug__" : Str)) = false := by decide) : PE X (.Name x pos) (tC v) :=
  fun _ _ _ H _ I h => ld_blt I hg hm hv ⟨v, H, I, r, h⟩ hn hd

/-! ### arithmetic -/
variable {a b : Expr} {ta tb : TE} {pos : Pos}

/-! ### comparisons -/
noncomputable def PC (X : Cx) (op : CmpOp) (a b : Expr) (t : TE) : Prop :=
  ∀ (pins : List (Addr × Obj)) (s : Shared) (σ : St) (H : Hp) (Q : VK), Inv X pins σ H s → t σ H Q →
    wpAny (model X.prog X.w) X.A (eval a X.env) (fun v s₁ => wpAny (model X.prog X.w) X.A (eval b X.env) (fun u s₂ => wpAny (model X.prog X.w) X.A (compareOp op v u) (EP X pins σ Q) X.xe s₂) X.xe s₁) X.xe s
/-- a comparison as a value, as a test -/
noncomputable def tB (t : TE) : TT := fun σ H Q => t σ H fun x H1 => ∃ c, x = .bl c ∧ Q c H1
theorem pt_cmp {op : CmpOp} {t : TE} (h : PC X op a b t) (h1 : behindInMarks op b = false := by first | exact nobehind _ (by decide) (by decide) | rfl) : PT X (.Compare a [op] [b] pos) (tB t) := by
  intro pins s σ H Q I hw
  refine wpAny_isTrue_Compare1 (thn (h pins s σ H _ I hw) fun v s1 h1 => thn h1 fun u s2 h2 => thn h2 fun c s3 ⟨x, H1, I1, r1, q1⟩ => ?_) h1
  obtain ⟨d, rfl, q⟩ := q1
  cases r1
  exact wpAny_truthy_bool ⟨H1, I1, q⟩
/-- an expression whose value is a bool, as a test -/
theorem pt_val {e : Expr} {t : TE} (h : PE X e t) (he : ∀ whole, isTrue e X.env whole = (do let v ← whole; standAt e.pos; holding [v] (truthy v)) := by intro _; rfl) : PT X e (tB t) := by
  intro pins s σ H Q I hw
  refine isTrue_plain (thn (h pins s σ H _ I hw) fun v s1 ⟨x, H1, I1, r1, q1⟩ => ?_) (he _)
  obtain ⟨d, rfl, q⟩ := q1
  cases r1
  exact wpAny_truthy_bool ⟨H1, I1, q⟩

/-! ### and, or, not -/
variable {tA tB' : TT} {rest : List Expr}
noncomputable def tAnd (t u : TT) : TT := fun σ H Q => t σ H fun c H1 => if c = true then u σ H1 Q else Q false H1
noncomputable def tOr (t u : TT) : TT := fun σ H Q => t σ H fun c H1 => if c = true then Q true H1 else u σ H1 Q
noncomputable def tNot (t : TT) : TT := fun σ H Q => t σ H fun c H1 => Q (!c) H1
theorem pw_and1 (ha : PT X a tA) : PW X (.BoolOp .And [a] pos) tA := by
  intro wh pins s σ H Q I h
  refine isTrue_and (thn (ha pins s σ H Q I h) fun c s1 e => ?_)
  cases c with
  | true => exact isTrue_and_nil e
  | false => exact e
theorem pw_or1 (ha : PT X a tA) : PW X (.BoolOp .Or [a] pos) tA := by
  intro wh pins s σ H Q I h
  refine isTrue_or (thn (ha pins s σ H Q I h) fun c s1 e => ?_)
  cases c with
  | false => exact isTrue_or_nil e
  | true => exact e
theorem pw_and (ha : PT X a tA) (hb : PW X (.BoolOp .And (b :: rest) pos) tB') : PW X (.BoolOp .And (a :: b :: rest) pos) (tAnd tA tB') := by
  intro wh pins s σ H Q I h
  refine isTrue_and (thn (ha pins s σ H _ I h) fun c s1 ⟨H1, I1, q1⟩ => ?_)
  cases c with
  | true => exact hb wh pins s1 σ H1 Q I1 q1
  | false => exact ⟨H1, I1, q1⟩
theorem pw_or (ha : PT X a tA) (hb : PW X (.BoolOp .Or (b :: rest) pos) tB') : PW X (.BoolOp .Or (a :: b :: rest) pos) (tOr tA tB') := by
  intro wh pins s σ H Q I h
  refine isTrue_or (thn (ha pins s σ H _ I h) fun c s1 ⟨H1, I1, q1⟩ => ?_)
  cases c with
  | true => exact ⟨H1, I1, q1⟩
  | false => exact hb wh pins s1 σ H1 Q I1 q1
theorem pt_not (ha : PT X a tA) : PT X (.UnaryOp .Not a pos) (tNot tA) := by
  intro pins s σ H Q I h
  exact isTrue_not (ha pins s σ H (fun c H1 => Q (!c) H1) I h)
/-- .. as values (bools) -/
noncomputable def tAndV (ta tb : TE) : TE := fun σ H Q => ta σ H fun x H1 => ∃ c, x = .bl c ∧ if c = true then tb σ H1 Q else Q (.bl false) H1
noncomputable def tNotV (ta : TE) : TE := fun σ H Q => ta σ H fun x H1 => ∃ c, x = .bl c ∧ Q (.bl (!c)) H1
theorem pe_one {op} {t : TE} (h : PE X a t) : PE X (.BoolOp op [a] pos) t := fun pins s σ H Q I hw => BoolOp_one (h pins s σ H Q I hw)
theorem pe_and (ha : PE X a ta) (hb : PE X (.BoolOp .And (b :: rest) pos) tb) : PE X (.BoolOp .And (a :: b :: rest) pos) (tAndV ta tb) := by
  intro pins s σ H Q I h
  refine BoolOp_and (thn (ha pins s σ H _ I h) fun v s1 ⟨x, H1, I1, r1, q1⟩ => ?_)
  obtain ⟨c, rfl, q1⟩ := q1
  cases r1
  refine wpAny_truthy_bool ?_
  cases c with
  | true => exact hb pins s1 σ H1 Q I1 q1
  | false => exact ⟨.bl false, H1, I1, rfl, q1⟩
theorem pe_not (ha : PE X a ta) : PE X (.UnaryOp .Not a pos) (tNotV ta) := by
  intro pins s σ H Q I h
  refine UnaryOp_ (thn (ha pins s σ H _ I h) fun v s1 ⟨x, H1, I1, r1, q1⟩ => ?_)
  obtain ⟨c, rfl, q1⟩ := q1
  cases r1
  exact not_of (wpAny_truthy_bool ⟨.bl (!c), H1, I1, rfl, q1⟩)
end
end L2

namespace L2
open PySem PySem.Spec PyProof.Rows

/-! ### a list, a tuple that is read: tracked, frozen, or an object of the module -/
noncomputable def SqL (K : PySem.W.Frag) (H : Hp) (a : Addr) (xs : List V) : Prop :=
  Rd H a (.lst xs) ∨
    ∃ (o : Obj) (its : Array Value) (n : Nat), K.lookup a = some o ∧ o.cls = .type "list" ∧ o.dict = none ∧ o.data = .seq its n ∧ its.size ≤ sizeLine ∧ Vals xs its.toList
noncomputable def SqT (K : PySem.W.Frag) (H : Hp) (a : Addr) (xs : List V) : Prop :=
  Rd H a (.tup xs) ∨
    ∃ (o : Obj) (its : Array Value) (n : Nat), K.lookup a = some o ∧ o.cls = .type "tuple" ∧ o.data = .seq its n ∧ its.size ≤ sizeLine ∧ Vals xs its.toList
noncomputable def absV : Value → Option V
  | .none => some .non
  | .bool b => some (.bl b)
  | .int i _ => some (.int i)
  | .str x _ => some (.str x)
  | .bytes b _ => some (.byt b)
  | .float b _ => some (.flt b)
  | .ref a => some (.ref a)
  | .type n => some (.ty n)
  | _ => none
theorem RelV.abs {x : V} {u : Value} (r : RelV x u) : absV u = some x := by
  cases x with
  | non => cases r; rfl
  | bl _ => cases r; rfl
  | int _ => obtain ⟨t, rfl⟩ := r; rfl
  | str _ => obtain ⟨t, rfl⟩ := r; rfl
  | byt _ => obtain ⟨t, rfl⟩ := r; rfl
  | flt _ => obtain ⟨t, rfl⟩ := r; rfl
  | ref _ => cases r; rfl
  | ty _ => cases r; rfl
theorem RelV.inj {x y : V} {u : Value} (r : RelV x u) (q : RelV y u) : x = y := Option.some.inj (r.abs.symm.trans q.abs)
theorem Vals.inj : ∀ {xs ys : List V} {us : List Value}, Vals xs us → Vals ys us → xs = ys
  | _, _, _, .nil, .nil => rfl
  | _, _, _, .cons r t, .cons r' t' => by rw [r.inj r', Vals.inj t t']
section
variable {X : Cx} {pins : List (Addr × Obj)} {σ : St} {H : Hp} {s : Shared} {a : Addr} {xs ys : List V}
theorem SqL.of {K : PySem.W.Frag} (h : H a = some (.lst xs)) : SqL K H a xs := .inl (.inl h)
theorem SqT.of {K : PySem.W.Frag} (h : H a = some (.tup xs)) : SqT K H a xs := .inl (.inl h)
theorem Inv.list (I : Inv X pins σ H s) (h : SqL X.K H a xs) : ∃ its : List Value, Vals xs its ∧ PlainL s.heap a its.toArray ∧ xs.length ≤ sizeLine := by
  rcases h with h | ⟨o, its, n, hk, hc, hd, hs, hz, r⟩
  · obtain ⟨z, its, n, r, e⟩ := h.ok I.hok
    exact ⟨its, r, ⟨_, n, e, rfl, rfl, rfl⟩, z⟩
  · refine ⟨its.toList, r, ⟨o, n, I.kIn a o hk, hc, hd, by simpa using hs⟩, ?_⟩
    have e := r.length
    simp only [Array.length_toList] at e
    omega
theorem Inv.tuple (I : Inv X pins σ H s) (h : SqT X.K H a xs) : ∃ its : List Value, Vals xs its ∧ IsTup s.heap a its.toArray ∧ xs.length ≤ sizeLine := by
  rcases h with h | ⟨o, its, n, hk, hc, hs, hz, r⟩
  · obtain ⟨z, its, r, p⟩ := h.ok I.hok
    exact ⟨its, r, p, z⟩
  · refine ⟨its.toList, r, ⟨o, I.kIn a o hk, hc, n, by simpa using hs⟩, ?_⟩
    have e := r.length
    simp only [Array.length_toList] at e
    omega
theorem Inv.list_inj (I : Inv X pins σ H s) (h : SqL X.K H a xs) (h' : SqL X.K H a ys) : xs = ys := by
  obtain ⟨its, r, ⟨o, n, e, _, _, d⟩, _⟩ := I.list h
  obtain ⟨its', r', ⟨o', n', e', _, _, d'⟩, _⟩ := I.list h'
  rw [e] at e'; cases e'
  rw [d] at d'
  injection d' with d1 _
  have : its = its' := by simpa using congrArg Array.toList d1
  subst this
  exact r.inj r'
theorem Inv.tuple_inj (I : Inv X pins σ H s) (h : SqT X.K H a xs) (h' : SqT X.K H a ys) : xs = ys := by
  obtain ⟨its, r, ⟨o, e, _, n, d⟩, _⟩ := I.tuple h
  obtain ⟨its', r', ⟨o', e', _, n', d'⟩, _⟩ := I.tuple h'
  rw [e] at e'; cases e'
  rw [d] at d'
  injection d' with d1 _
  have : its = its' := by simpa using congrArg Array.toList d1
  subst this
  exact r.inj r'
end

/-! ### another wish about exceptions -/
noncomputable abbrev Cx.wish (X : Cx) (E : Value → Shared → Prop) : Cx := { X with xe := E }
/-- no exception leaves -/
noncomputable abbrev Cx.nox (X : Cx) : Cx := X.wish fun _ _ => False
theorem Cx.Ok.wish {X : Cx} (ok : X.Ok) (E : Value → Shared → Prop) : (X.wish E).Ok :=
  ⟨ok.mod, ok.kind, ok.glob, ok.blt, ok.above, ok.inj, ok.has, ok.cab, ok.hd, ok.frames, ok.stk, ok.exf, ok.bs, ok.bsz, ok.noex, ok.exfs, ok.funs, ok.frf⟩
theorem Cx.Ok.unwish {X : Cx} {E : Value → Shared → Prop} (ok : (X.wish E).Ok) : X.Ok :=
  ⟨ok.mod, ok.kind, ok.glob, ok.blt, ok.above, ok.inj, ok.has, ok.cab, ok.hd, ok.frames, ok.stk, ok.exf, ok.bs, ok.bsz, ok.noex, ok.exfs, ok.funs, ok.frf⟩
section
variable {X : Cx} {pins : List (Addr × Obj)} {σ : St} {H : Hp} {s : Shared} {E : Value → Shared → Prop}
theorem Inv.wish (I : Inv X pins σ H s) (E : Value → Shared → Prop) : Inv (X.wish E) pins σ H s := ⟨I.ok.wish E, I.os, I.bare, I.base, I.loc, I.cell, I.free, I.freeC, I.pin, I.hok, I.len⟩
theorem Inv.unwish (I : Inv (X.wish E) pins σ H s) : Inv X pins σ H s := ⟨I.ok.unwish, I.os, I.bare, I.base, I.loc, I.cell, I.free, I.freeC, I.pin, I.hok, I.len⟩
theorem SP.unwish {D : Ends} {f : Flow} {s' : Shared} (h : SP (X.wish E) pins D f s') : SP X pins D f s' := by
  cases f with
  | next => obtain ⟨σ', H', I, q⟩ := h; exact ⟨σ', H', I.unwish, q⟩
  | brk => obtain ⟨σ', H', I, q⟩ := h; exact ⟨σ', H', I.unwish, q⟩
  | cont => obtain ⟨σ', H', I, q⟩ := h; exact ⟨σ', H', I.unwish, q⟩
  | ret u => obtain ⟨v, σ', H', I, r, q⟩ := h; exact ⟨v, σ', H', I.unwish, r, q⟩
theorem PSs.nox {st : List Stmt} {t : TS} (h : PSs X.nox st t) : PSs X st t := fun pins s σ H D I hw =>
  wpAny_mono (h pins s σ H D (I.wish _) hw) (fun _ _ q => q.unwish) fun _ _ z => False.elim z
end

/-! ### blocks and small statements -/
section
variable {X : Cx} {st : Stmt} {rest : List Stmt} {t u : TS} {e : Expr} {te : TE} {pos : Pos}
noncomputable def tNext : TS := fun D σ H => D.nx σ H
noncomputable def tSeq (t u : TS) : TS := fun D σ H => t { D with nx := u D } σ H
theorem pss_nil : PSs X [] tNext := fun _ _ σ H _ I h => wpAny_execs_nil ⟨σ, H, I, h⟩
theorem pss_cons (h1 : PS X st t) (h2 : PSs X rest u) : PSs X (st :: rest) (tSeq t u) := by
  intro pins s σ H D I h
  refine wpAny_execs_cons (thn (h1 pins s σ H { D with nx := u D } I h) fun f s1 q => ?_)
  cases f with
  | next =>
    obtain ⟨σ', H', I', q⟩ := q
    exact h2 pins s1 σ' H' D I' q
  | ret v => exact q
  | brk => exact q
  | cont => exact q
theorem pss_one (h1 : PS X st t) : PSs X [st] t := by
  intro pins s σ H D I h
  refine wpAny_execs_cons (thn (h1 pins s σ H D I h) fun f s1 q => ?_)
  cases f with
  | next => exact wpAny_execs_nil q
  | ret v => exact q
  | brk => exact q
  | cont => exact q
/-- in a def's body nothing is shown -/
theorem Inv.quiet {pins : List (Addr × Obj)} {σ : St} {H : Hp} {s : Shared} (I : Inv X pins σ H s) : interactive X.env = false := by simp [interactive, I.ok.kind]
/-- an expression whose value is dropped -/
noncomputable def tDrop (te : TE) : TS := fun D σ H => te σ H fun _ H1 => D.nx σ H1
theorem ps_expr (he : PE X e te) (hs : swapsWith e none pos.line X.env = pure false := by rfl) : PS X (.Expr e pos) (tDrop te) := by
  intro pins s σ H D I h
  exact wpAny_Expr_any (thn (he pins s σ H _ I h) fun v s1 ⟨x, H1, I1, r1, q1⟩ => ⟨σ, H1, I1, q1⟩) I.quiet hs
noncomputable def tRet (te : TE) : TS := fun D σ H => te σ H D.rt
theorem ps_ret (he : PE X e te) : PS X (.Return (some e) pos) (tRet te) := by
  intro pins s σ H D I h
  exact wpAny_Return_some (thn (he pins s σ H _ I h) fun v s1 ⟨x, H1, I1, r1, q1⟩ => ⟨x, σ, H1, I1, r1, q1⟩)
noncomputable def tIfS (c : TT) (t u : TS) : TS := fun D σ H => c σ H fun b H1 => if b = true then t D σ H1 else u D σ H1
theorem ps_if {c : Expr} {a b : List Stmt} {tc : TT} (hc : PT X c tc) (ha : PSs X a t) (hb : PSs X b u) : PS X (.If c a b pos) (tIfS tc t u) := by
  intro pins s σ H D I h
  refine wpAny_If (thn (hc pins s σ H _ I h) fun d s1 ⟨H1, I1, q1⟩ => ?_)
  cases d with
  | true => exact ha pins s1 σ H1 D I1 q1
  | false => exact hb pins s1 σ H1 D I1 q1
/-- code that the proof never comes to -/
noncomputable def tNever : TS := fun _ _ _ => False
theorem ps_never : PS X st tNever := fun _ _ _ _ _ _ h => h.elim
end

/-! ### targets -/
noncomputable abbrev TG := V → St → Hp → (St → Hp → Prop) → Prop
noncomputable abbrev TGs := List V → St → Hp → (St → Hp → Prop) → Prop
noncomputable def PG (X : Cx) (target : Expr) (t : TG) : Prop :=
  ∀ (pins : List (Addr × Obj)) (s : Shared) (σ : St) (H : Hp) (v : V) (u : Value) (Q : St → Hp → Prop), Inv X pins σ H s → RelV v u → t v σ H Q →
    wpAny (model X.prog X.w) X.A (assign target X.env u) (fun _ s' => ∃ σ' H', Inv X pins σ' H' s' ∧ Q σ' H') X.xe s
/-- several targets, one after another -/
noncomputable def PGs (X : Cx) (ts : List Expr) (t : TGs) : Prop :=
  ∀ (pins : List (Addr × Obj)) (s : Shared) (σ : St) (H : Hp) (vs : List V) (us : List Value) (Q : St → Hp → Prop), Inv X pins σ H s → Vals vs us → t vs σ H Q →
    wpAny (model X.prog X.w) X.A (assignInOrder ((assignEach ts X.env).map (·.2)) us) (fun _ s' => ∃ σ' H', Inv X pins σ' H' s' ∧ Q σ' H') X.xe s
section
variable {X : Cx} {pos : Pos}
noncomputable def gName (i : Nat) : TG := fun v σ H Q => Q (σ.set i (some v)) H
theorem pg_name {i : Nat} {x : Str} (hN : X.N.Nodup) (hi : X.N[i]? = some x) (hx : Loc X.env.scope x) (hf : X.fn x = true ∨ X.env.scope.names.lookup x = some .local := by first | exact .inl rfl | exact .inr rfl | assumption) : PG X (.Name x pos) (gName i) := by
  intro pins s σ H v u Q I r h
  exact wpAny_assign_Name (store_ok I hN hi hx r (fun s' I' => ⟨_, H, I', h⟩) hf)
noncomputable def gNil : TGs := fun vs σ H Q => vs = [] ∧ Q σ H
noncomputable def gCons (t : TG) (u : TGs) : TGs := fun vs σ H Q => ∃ v r, vs = v :: r ∧ t v σ H fun σ' H' => u r σ' H' Q
theorem pgs_nil : PGs X [] gNil := by
  intro pins s σ H vs us Q I r h
  obtain ⟨e, h⟩ := h
  subst e
  cases r
  exact assignInOrder_nil ⟨σ, H, I, h⟩
theorem pgs_cons {e : Expr} {es : List Expr} {t : TG} {u : TGs} (h1 : PG X e t) (h2 : PGs X es u)
    (hs : (assignEach (e :: es) X.env).map (·.2) = assign e X.env :: (assignEach es X.env).map (·.2) := by rfl) : PGs X (e :: es) (gCons t u) := by
  intro pins s σ H vs us Q I r h
  obtain ⟨v, vr, e1, h⟩ := h
  subst e1
  cases r with
  | cons r rr =>
    rw [hs]
    refine assignInOrder_cons (thn (h1 pins s σ H _ _ _ I r h) fun _ s1 ⟨σ1, H1, I1, q1⟩ => ?_)
    exact h2 pins s1 σ1 H1 _ _ Q I1 rr q1
/-- (a, b, ..) = a tuple of that length -/
noncomputable def gTup (K : PySem.W.Frag) (n : Nat) (t : TGs) : TG := fun v σ H Q => ∃ a xs, v = .ref a ∧ SqT K H a xs ∧ xs.length = n ∧ t xs σ H Q
theorem pg_tup {es : List Expr} {k : Nat} {t : TGs} {n : Nat} (hc : X.calm = true) (h : PGs X es t)
    (hn : (assignEach es X.env).length = n := by rfl) (hst : (assignEach es X.env).findIdx? (·.1) = none := by rfl) : PG X (.Tuple es k pos) (gTup X.K n t) := by
  intro pins s σ H v u Q I r hw
  obtain ⟨a, xs, e1, hq, hl, hw⟩ := hw
  subst e1
  cases r
  obtain ⟨its, rv, ht, hz⟩ := I.tuple hq
  refine assign_Tuple_tuple (I.ok.hd hc) ht (by simp [hn, ← hl, rv.length]) hst fun h' hx => ?_
  have I1 : Inv X pins σ H { s with heap := h' } := I.kept (t' := s.toks) fun b o e => hx b o (Nat.ne_of_lt (Heap.lt_size e)) e
  exact h pins _ σ H xs _ Q I1 (by simpa using rv) hw
/-- target = value -/
noncomputable def tAsg (te : TE) (g : TG) : TS := fun D σ H => te σ H fun x H1 => g x σ H1 D.nx
theorem ps_asg {tg e : Expr} {te : TE} {g : TG} (he : PE X e te) (hg : PG X tg g) (hs : swapsWithSole [tg] e pos.line X.env = pure false := by rfl) (hw : swappedStores [tg] e X.env = pure none := by rfl)
    (h1 : (assignEach [tg] X.env).map (·.2) = [assign tg X.env] := by rfl) : PS X (.Assign [tg] e pos) (tAsg te g) := by
  intro pins s σ H D I h
  refine wpAny_Assign_stores (thn (he pins s σ H _ I h) fun v s1 ⟨x, H1, I1, r1, q1⟩ => ?_) hs hw
  rw [h1]
  exact thn (hg pins s1 σ H1 x v _ I1 r1 q1) fun _ s2 q => q
/-- name = value -/
theorem ps_set {i : Nat} {x : Str} {e : Expr} {te : TE} {pos' : Pos} (hN : X.N.Nodup) (hi : X.N[i]? = some x) (hx : Loc X.env.scope x) (he : PE X e te) (hs : swapsWith e (some (.Name x pos')) pos.line X.env = pure false := by rfl) (hf : X.fn x = true ∨ X.env.scope.names.lookup x = some .local := by first | exact .inl rfl | exact .inr rfl | assumption) :
    PS X (.Assign [.Name x pos'] e pos) (tAsg te (gName i)) := by
  intro pins s σ H D I h
  refine wpAny_Assign_Name (thn (he pins s σ H _ I h) fun v s1 ⟨y, H1, I1, r1, q1⟩ => ?_) hs
  exact store_ok I1 hN hi hx r1 (fun s2 I2 => ⟨_, H1, I2, q1⟩) hf
end

/-! ### while -/
section
variable {X : Cx} {pos : Pos}
/-- the invariant W with its measure -/
noncomputable def tWhile (c : TT) (tb : TS) : TS := fun D σ H => ∃ W : Nat → St → Hp → Prop, (∃ m, W m σ H) ∧ ∀ m σ H, W m σ H →
  c σ H fun b H1 => if b = true then ∃ N : St → Hp → Prop, (∀ σ' H', N σ' H' → ∃ m', m' < m ∧ W m' σ' H') ∧ tb { D with nx := N, ct := N, bk := D.nx } σ H1 else D.nx σ H1
theorem ps_while {c : Expr} {body : List Stmt} {tc : TT} {tb : TS} (hp : PassesOwn (model X.prog X.w) X.A X.env X.xe) (hc : PT X c tc) (hb : PSs X body tb) : PS X (.While c body [] pos) (tWhile tc tb) := by
  intro pins s σ H D I h
  obtain ⟨W, ⟨m0, w0⟩, turn⟩ := h
  refine wpAny_While (codeAny_whileLoop (fun n s' => ∃ σ' H', Inv X pins σ' H' s' ∧ W n σ' H') ?_ m0 ⟨σ, H, I, w0⟩)
  rintro n s1 ⟨σ1, H1, I1, w1⟩
  refine wpAny_passesOwn hp (thn (hc pins s1 σ1 H1 _ I1 (turn n σ1 H1 w1)) fun b s2 ⟨H2, I2, q2⟩ => ?_)
  cases b with
  | true =>
    obtain ⟨N, hN, q2⟩ := q2
    rw [if_pos rfl]
    refine wpAny_passesOwn hp (thn (hb pins s2 σ1 H2 _ I2 q2) fun f s3 q3 => ?_)
    cases f with
    | next =>
      obtain ⟨σ3, H3, I3, n3⟩ := q3
      obtain ⟨m', hm, w3⟩ := hN σ3 H3 n3
      exact ⟨m', hm, σ3, H3, I3, w3⟩
    | cont =>
      obtain ⟨σ3, H3, I3, n3⟩ := q3
      obtain ⟨m', hm, w3⟩ := hN σ3 H3 n3
      exact ⟨m', hm, σ3, H3, I3, w3⟩
    | brk => exact q3
    | ret v => exact q3
  | false =>
    rw [if_neg Bool.false_ne_true]
    exact wpAny_execs_nil ⟨σ1, H2, I2, q2⟩
end

/-! ### what a loop or a comprehension walks -/
/-- at turn i: it yields x (the heap may grow), or it stops -/
structure It where
  go : Nat → Hp → Prop
  yld : Nat → Hp → V → Hp → Prop
  stop : Nat → Hp → Prop
/-- the iterator's own objects may turn: they are not the frame's, not pinned, younger than the entry (or a comprehension's own) -/
noncomputable def FpOk (X : Cx) (pins : List (Addr × Obj)) (H : Hp) (b : Addr) : Prop :=
  H b = none ∧ b ≠ X.env.locals ∧ b ∉ X.fs ∧ (b ∈ X.ex ∨ X.s₀.heap.objs.size ≤ b) ∧ (∀ x c, X.env.cells.lookup x = some c → c ≠ b) ∧ ∀ p ∈ X.pn ++ pins, p.1 ≠ b
theorem Inv.fpOk {X : Cx} {pins : List (Addr × Obj)} {σ : St} {H H' : Hp} {s : Shared} {b : Addr} (I : Inv X pins σ H s) (hb : s.heap.objs.size ≤ b) (hn : H' b = none) : FpOk X pins H' b := by
  refine ⟨hn, Nat.ne_of_gt (Nat.lt_of_lt_of_le I.lt hb), I.nofs hb, .inr (Nat.le_trans I.sz hb), fun x c e z => ?_, fun p hp z => ?_⟩
  · obtain ⟨v, q⟩ := I.cell x c e
    exact absurd (Nat.lt_of_lt_of_le q.lt (by rw [z]; exact hb)) (Nat.lt_irrefl _)
  · exact absurd (Nat.lt_of_lt_of_le (Heap.lt_size (I.pin p hp).1) (by rw [z]; exact hb)) (Nat.lt_irrefl _)
structure Turn (P : Program) (w : World) (K : PySem.W.Frag) (tg : Expr) (J : It) (fp : List Addr) (it : Addr) (tn : Nat → Heap → Prop) : Prop where
  mem : it ∈ fp
  obj : ∀ i h, tn i h → ∀ b ∈ fp, ∃ o, h.get? b = some o ∧ ∀ v, o.data ≠ .cell v
  keep : ∀ i h h', tn i h → (∀ b ∈ fp, ∀ o, h.get? b = some o → h'.get? b = some o) → tn i h'
  item : ∀ (X : Cx), X.prog = P → X.w = w → X.K = K → X.calm = true → ∀ (i : Nat) (pins : List (Addr × Obj)) (s : Shared) (σ : St) (H : Hp) (E : Value → Shared → Prop), Inv X pins σ H s → (∀ b ∈ fp, FpOk X pins H b) → tn i s.heap → J.go i H →
    wpAny (model P w) X.A (pyNext (.ref it)) (fun r s1 => ∃ u, r = some u ∧
      wpAny (model P w) X.A (letOwnedTupleGo tg (.ref it) u) (fun _ s2 => ∃ x H', Inv X pins σ H' s2 ∧ RelV x u ∧ J.yld i H x H' ∧ tn (i + 1) s2.heap ∧ ∀ b ∈ fp, H' b = none) E s1) E s
  done : ∀ (X : Cx), X.prog = P → X.w = w → X.K = K → X.calm = true → ∀ (i : Nat) (pins : List (Addr × Obj)) (s : Shared) (σ : St) (H : Hp) (E : Value → Shared → Prop), Inv X pins σ H s → (∀ b ∈ fp, FpOk X pins H b) → tn i s.heap → J.stop i H →
    wpAny (model P w) X.A (pyNext (.ref it)) (fun r s1 => r = none ∧ Inv X pins σ H s1) E s
  self : ∀ (A : Around) (i : Nat) (s : Shared) (Q : Value → Shared → Prop) (E : Value → Shared → Prop), tn i s.heap → Q (.ref it) s → wpAny (model P w) A (pyIter (.ref it)) Q E s
noncomputable abbrev TI := St → Hp → (It → Hp → Prop) → Prop
/-- an iterator has come -/
noncomputable def PIE (X : Cx) (pins : List (Addr × Obj)) (σ : St) (tg : Expr) (R : It → Hp → Prop) (itv : Value) (s2 : Shared) : Prop :=
  ∃ (it : Addr) (fp : List Addr) (tn : Nat → Heap → Prop) (J : It) (H' : Hp), itv = .ref it ∧ Inv X pins σ H' s2 ∧ Turn X.prog X.w X.K tg J fp it tn ∧ tn 0 s2.heap ∧ (∀ b ∈ fp, FpOk X pins H' b) ∧ R J H'
noncomputable def PI (X : Cx) (tg iter : Expr) (wi : TI) : Prop :=
  ∀ (pins : List (Addr × Obj)) (s : Shared) (σ : St) (H : Hp) (R : It → Hp → Prop), Inv X pins σ H s → wi σ H R →
    wpAny (model X.prog X.w) X.A (eval iter X.env) (fun v s1 => wpAny (model X.prog X.w) X.A (pyIter v) (PIE X pins σ tg R) X.xe s1) X.xe s

/-- the step ahead of the store is nothing for an iterator that keeps no tuple -/
theorem go_of {M : Model} {A : Around} {E : Value → Shared → Prop} {s : Shared} {tg : Expr} {it : Addr} {u : Value} {o : Obj} {n : String} {vs : Array Value} {Q : Unit → Shared → Prop} (ho : s.heap.get? it = some o) (hc : o.cls = .type n) (hd : o.data = .fields vs)
    (hn : ["enumerate", "zip", "dict_itemiterator", "dict_reverseitemiterator", "odict_iterator", "itertools.zip_longest", "itertools.pairwise"].contains n = false) (hQ : Q () s) : wpAny M A (letOwnedTupleGo tg (.ref it) u) Q E s := by
  unfold letOwnedTupleGo
  cases tg <;> first
    | exact wpAny_pure hQ
    | (cases u <;> first
        | exact wpAny_pure hQ
        | (refine wpAny_bind (wpAny_load ho ?_)
           rw [hc, hd]
           show wpAny M A (if (["enumerate", "zip", "dict_itemiterator", "dict_reverseitemiterator", "odict_iterator", "itertools.zip_longest", "itertools.pairwise"].contains n && vs[0]? == some (rawInt _)) = true then _ else _) Q E s
           rw [if_neg (by intro h; rw [hn, Bool.false_and] at h; cases h)]
           exact wpAny_pure hQ))

/-- the list at a, as it stands at each turn (a loop may append to it) -/
noncomputable def Itl (K : PySem.W.Frag) (a : Addr) : It :=
  ⟨fun i H => ∃ xs x, SqL K H a xs ∧ xs[i]? = some x, fun i H x H' => H' = H ∧ ∀ xs, SqL K H a xs → xs[i]? = some x, fun i H => ∃ xs, SqL K H a xs ∧ xs.length ≤ i⟩
noncomputable def Itt (K : PySem.W.Frag) (a : Addr) : It :=
  ⟨fun i H => ∃ xs x, SqT K H a xs ∧ xs[i]? = some x, fun i H x H' => H' = H ∧ ∀ xs, SqT K H a xs → xs[i]? = some x, fun i H => ∃ xs, SqT K H a xs ∧ xs.length ≤ i⟩
/-- lo, lo + 1, .. (n of them) -/
noncomputable def Itr (lo : Int) (n : Nat) : It := ⟨fun i _ => i < n, fun i H x H' => H' = H ∧ x = .int (lo + i), fun i _ => n ≤ i⟩
theorem turn_list {P : Program} {w : World} {K : PySem.W.Frag} {tg : Expr} (a it : Addr) : Turn P w K tg (Itl K a) [it] it (fun i h => h.IsListIter it a i) where
  mem := by simp
  obj := fun i h st b hb => by
    have e : b = it := by simpa using hb
    subst e
    obtain ⟨o, e, c, d⟩ := st
    exact ⟨o, e, fun v z => by rw [d] at z; cases z⟩
  keep := fun i h h' st k => st.at fun o e => k it (by simp) o e
  item := by
    intro X hP hw hK hc i pins s σ H E I hf st hg
    subst hP hw hK
    obtain ⟨xs, x, hq, hx⟩ := hg
    obtain ⟨its, rv, p, hz⟩ := I.list hq
    obtain ⟨u, hu, ru⟩ := rv.get hx
    obtain ⟨f0, f1, f2, f3, f4, f5⟩ := hf it (by simp)
    refine wpAny_pyNext_list_item st p.isList (x := u) (by simpa using hu) fun h' st' sb => ?_
    have I1 : Inv X pins σ H { s with heap := h' } := I.turned (t' := s.toks) (fun b o hb e => (sb.2 b hb).trans e) f0 f1 f3 f4 f5
    obtain ⟨o, e, c, d⟩ := id st'
    exact ⟨u, rfl, go_of (s := { s with heap := h' }) e c d (by decide) ⟨x, H, I1, ru, ⟨rfl, fun ys hy => by rw [I.list_inj hy hq]; exact hx⟩, st', fun b hb => (hf b hb).1⟩⟩
  done := by
    intro X hP hw hK hc i pins s σ H E I hf st hg
    subst hP hw hK
    obtain ⟨xs, hq, hx⟩ := hg
    obtain ⟨its, rv, p, hz⟩ := I.list hq
    obtain ⟨f0, f1, f2, f3, f4, f5⟩ := hf it (by simp)
    have hl := rv.length
    exact wpAny_pyNext_list_end (I.ok.hd hc) st p.isList (by simp; omega) fun h' eb => ⟨rfl, I.turned (t' := s.toks) (fun b o hb e => eb b o hb e) f0 f1 f3 f4 f5⟩
  self := fun _ _ _ _ _ st h => wpAny_pyIter_listiter st h
theorem turn_tuple {P : Program} {w : World} {K : PySem.W.Frag} {tg : Expr} (a it : Addr) : Turn P w K tg (Itt K a) [it] it (fun i h => h.IsTupleIter it a i) where
  mem := by simp
  obj := fun i h st b hb => by
    have e : b = it := by simpa using hb
    subst e
    obtain ⟨o, e, c, d⟩ := st
    exact ⟨o, e, fun v z => by rw [d] at z; cases z⟩
  keep := fun i h h' st k => st.at fun o e => k it (by simp) o e
  item := by
    intro X hP hw hK hc i pins s σ H E I hf st hg
    subst hP hw hK
    obtain ⟨xs, x, hq, hx⟩ := hg
    obtain ⟨its, rv, p, hz⟩ := I.tuple hq
    obtain ⟨u, hu, ru⟩ := rv.get hx
    obtain ⟨f0, f1, f2, f3, f4, f5⟩ := hf it (by simp)
    refine wpAny_pyNext_tuple_item st (show s.heap.IsTuple a its.toArray from p) (x := u) (by simpa using hu) fun h' st' sb => ?_
    have I1 : Inv X pins σ H { s with heap := h' } := I.turned (t' := s.toks) (fun b o hb e => (sb.2 b hb).trans e) f0 f1 f3 f4 f5
    obtain ⟨o, e, c, d⟩ := id st'
    exact ⟨u, rfl, go_of (s := { s with heap := h' }) e c d (by decide) ⟨x, H, I1, ru, ⟨rfl, fun ys hy => by rw [I.tuple_inj hy hq]; exact hx⟩, st', fun b hb => (hf b hb).1⟩⟩
  done := by
    intro X hP hw hK hc i pins s σ H E I hf st hg
    subst hP hw hK
    obtain ⟨xs, hq, hx⟩ := hg
    obtain ⟨its, rv, p, hz⟩ := I.tuple hq
    obtain ⟨f0, f1, f2, f3, f4, f5⟩ := hf it (by simp)
    have hl := rv.length
    exact wpAny_pyNext_tuple_end (I.ok.hd hc) st (show s.heap.IsTuple a its.toArray from p) (by simp; omega) fun h' eb => ⟨rfl, I.turned (t' := s.toks) (fun b o hb e => eb b o hb e) f0 f1 f3 f4 f5⟩
  self := fun _ _ _ _ _ st h => wpAny_pyIter_tupleiter st h
theorem turn_range {P : Program} {w : World} {K : PySem.W.Frag} {tg : Expr} (it : Addr) (lo : Int) (n : Nat) : Turn P w K tg (Itr lo n) [it] it (fun i h => IsRangeIter h it (lo + (i : Nat) * 1) ((n : Int) - (i : Nat)) 1) where
  mem := by simp
  obj := fun i h st b hb => by
    have e : b = it := by simpa using hb
    subst e
    exact ⟨_, st, fun v z => by
      have z' : Data.fields _ = Data.cell v := z
      cases z'⟩
  keep := fun i h h' st k => k it (by simp) _ st
  item := by
    intro X hP hw hK hc i pins s σ H E I hf st hg
    subst hP hw hK
    obtain ⟨f0, f1, f2, f3, f4, f5⟩ := hf it (by simp)
    have W := Walks.range (prog := X.prog) (w := X.w) (I.ok.hd hc) it lo 1 n
    refine W.item i s _ _ hg st fun v h' tk hv st' kk => ?_
    obtain ⟨t, rfl⟩ := hv
    have I1 : Inv X pins σ H { s with heap := h', toks := tk } := I.turned (fun b o hb e => kk b o (by simpa using hb) e) f0 f1 f3 f4 f5
    refine ⟨_, rfl, go_of (s := { s with heap := h', toks := tk }) (n := "range_iterator") st' rfl rfl (by decide) ⟨.int (lo + i), H, I1, ⟨t, ?_⟩, ⟨rfl, rfl⟩, st', fun b hb => (hf b hb).1⟩⟩
    rw [Int.mul_one]
  done := by
    intro X hP hw hK hc i pins s σ H E I hf st hg
    subst hP hw hK
    obtain ⟨f0, f1, f2, f3, f4, f5⟩ := hf it (by simp)
    exact wpAny_pyNext_range_end (I.ok.hd hc) st (by have : n ≤ i := hg; omega) fun h' eb => ⟨rfl, I.turned (t' := s.toks) (fun b o hb e => eb b o hb e) f0 f1 f3 f4 f5⟩
  self := fun _ _ _ _ _ st h => wpAny_pyIter_rangeiter st h
end L2

namespace L2
open PySem PySem.Spec PyProof.Rows
section
variable {X : Cx} {tg : Expr}
noncomputable def iList (K : PySem.W.Frag) (tl : TE) : TI := fun σ H R => tl σ H fun x H1 => ∃ a, x = .ref a ∧ (∃ xs, SqL K H1 a xs) ∧ R (Itl K a) H1
noncomputable def iTup (K : PySem.W.Frag) (tl : TE) : TI := fun σ H R => tl σ H fun x H1 => ∃ a, x = .ref a ∧ (∃ xs, SqT K H1 a xs) ∧ R (Itt K a) H1
theorem pi_list {l : Expr} {tl : TE} (hl : PE X l tl) : PI X tg l (iList X.K tl) := by
  intro pins s σ H R I h
  refine thn (hl pins s σ H _ I h) fun v s1 ⟨x, H1, I1, r1, q1⟩ => ?_
  obtain ⟨a, e, ⟨xs, hq⟩, q⟩ := q1
  subst e
  cases r1
  obtain ⟨its, rv, p, hz⟩ := I1.list hq
  refine wpAny_pyIter_list p.isList ?_
  refine ⟨s1.heap.objs.size, [s1.heap.objs.size], _, _, H1, rfl, I1.kept (t' := s1.toks) fun b o e => Heap.get?_push_of_some _ e, turn_list a _, ⟨_, Heap.get?_push_size _ rfl, rfl, rfl⟩, fun b hb => ?_, q⟩
  have e : b = s1.heap.objs.size := by simpa using hb
  subst e
  exact I1.fpOk (Nat.le_refl _) (I1.hok.fresh (Nat.le_refl _))
theorem pi_tup {l : Expr} {tl : TE} (hl : PE X l tl) : PI X tg l (iTup X.K tl) := by
  intro pins s σ H R I h
  refine thn (hl pins s σ H _ I h) fun v s1 ⟨x, H1, I1, r1, q1⟩ => ?_
  obtain ⟨a, e, ⟨xs, hq⟩, q⟩ := q1
  subst e
  cases r1
  obtain ⟨its, rv, p, hz⟩ := I1.tuple hq
  refine wpAny_pyIter_tuple (show s1.heap.IsTuple a its.toArray from p) ?_
  refine ⟨s1.heap.objs.size, [s1.heap.objs.size], _, _, H1, rfl, I1.kept (t' := s1.toks) fun b o e => Heap.get?_push_of_some _ e, turn_tuple a _, ⟨_, Heap.get?_push_size _ rfl, rfl, rfl⟩, fun b hb => ?_, q⟩
  have e : b = s1.heap.objs.size := by simpa using hb
  subst e
  exact I1.fpOk (Nat.le_refl _) (I1.hok.fresh (Nat.le_refl _))
/-- a range object just made, walked -/
theorem range_it {pins : List (Addr × Obj)} {σ : St} {H : Hp} {s : Shared} {R : It → Hp → Prop} {E : Value → Shared → Prop} {lo hi : Int} {t u v : Tok} {tk : Nat} (I : Inv X pins σ H s) (h1 : -(2 ^ 62) ≤ lo) (h2 : lo < 2 ^ 62) (h3 : -(2 ^ 62) ≤ hi) (h4 : hi < 2 ^ 62)
    (q : R (Itr lo (hi - lo).toNat) H) : wpAny (model X.prog X.w) X.A (pyIter (.ref s.heap.objs.size)) (PIE X pins σ tg R) E { s with heap := s.heap.push { cls := .type "range", data := .fields #[.int lo t, .int hi u, .int 1 v] }, toks := tk } := by
  refine wpAny_pyIter_range (IsRange.new ..) (small_one h1 h2 h3 h4) ?_
  have I1 : Inv X pins σ H { s with heap := s.heap.push { cls := .type "range", data := .fields #[.int lo t, .int hi u, .int 1 v] }, toks := tk } := I.kept fun b o e => Heap.get?_push_of_some _ e
  refine ⟨(s.heap.push { cls := .type "range", data := .fields #[.int lo t, .int hi u, .int 1 v] }).objs.size, [(s.heap.push { cls := .type "range", data := .fields #[.int lo t, .int hi u, .int 1 v] }).objs.size], _, _, H, rfl,
    I1.kept (t' := tk) fun b o e => Heap.get?_push_of_some _ e, turn_range _ lo (hi - lo).toNat, ?_, fun b hb => ?_, q⟩
  · have e1 : lo + ((0 : Nat) : Int) * 1 = lo := by simp
    have e2 : (((hi - lo).toNat : Nat) : Int) - ((0 : Nat) : Int) = Builtin.Range.rangeSize lo hi 1 := by rw [rangeSize_one]; split <;> omega
    show IsRangeIter _ _ (lo + ((0 : Nat) : Int) * 1) ((((hi - lo).toNat : Nat) : Int) - ((0 : Nat) : Int)) 1
    rw [e1, e2]
    exact Heap.get?_push_size _ rfl
  · have e : b = (s.heap.push { cls := .type "range", data := .fields #[.int lo t, .int hi u, .int 1 v] }).objs.size := by simpa using hb
    subst e
    exact I1.fpOk (Nat.le_refl _) (I1.hok.fresh (Nat.le_refl _))
noncomputable def iRng1 (ta : TA) : TI := fun σ H R => ta σ H fun vs H1 => ∃ j : Int, vs = [.int j] ∧ -(2 ^ 62) ≤ j ∧ j < 2 ^ 62 ∧ R (Itr 0 j.toNat) H1
theorem pi_range1 {a : Expr} {ta : TA} {p pos : Pos} (hg : Gl X "range") (hm : X.mg "range" = none) (ha : PA X [a] ta) (hs : starEach [a] X.env = [(false, eval a X.env)] := by rfl) : PI X tg (.Call (.Name "range" p) [a] [] pos) (iRng1 ta) := by
  intro pins s σ H R I h
  refine Call_ (ld_blt I hg hm boot_range (PyProof.Rows.callWith_type1 (thn (ha pos pins s σ H _ I h) fun us s1 ⟨vs, H1, I1, r1, q1⟩ => ?_) hs rfl))
  obtain ⟨j, e, q1, q2, q⟩ := q1
  subst e
  cases r1 with
  | cons r rr =>
    cases rr
    obtain ⟨t, rfl⟩ := r
    exact call_range_1 (range_it I1 (by omega) (by omega) q1 q2 (by simpa using q))

/-! ### for -/
/-- W: the invariant by the turn and a measure; N: what the body is to reach -/
noncomputable def tFor (wi : TI) (g : TG) (tb : TS) : TS := fun D σ H => wi σ H fun J H1 => ∃ W : Nat → Nat → St → Hp → Prop, (∃ m, W 0 m σ H1) ∧ ∀ i m σ H, W i m σ H →
  (J.stop i H ∧ D.nx σ H) ∨ (J.go i H ∧ ∃ N : St → Hp → Prop, (∀ σ' H', N σ' H' → ∃ m', m' < m ∧ W (i + 1) m' σ' H') ∧ ∀ x H', J.yld i H x H' → g x σ H' fun σ2 H2 => tb { D with nx := N, ct := N, bk := D.nx } σ2 H2)
/-- the records at fp as they stand -/
noncomputable def pinsAt (fp : List Addr) (h : Heap) : List (Addr × Obj) := fp.filterMap fun b => (h.get? b).map fun o => (b, o)
theorem mem_pinsAt {fp : List Addr} {h : Heap} {b : Addr} {o : Obj} (hb : b ∈ fp) (e : h.get? b = some o) : (b, o) ∈ pinsAt fp h := List.mem_filterMap.mpr ⟨b, hb, by rw [e]; rfl⟩
theorem of_pinsAt {fp : List Addr} {h : Heap} {p : Addr × Obj} (hp : p ∈ pinsAt fp h) : p.1 ∈ fp ∧ h.get? p.1 = some p.2 := by
  obtain ⟨b, hb, e⟩ := List.mem_filterMap.mp hp
  cases q : h.get? b with
  | none => rw [q] at e; cases e
  | some o =>
    rw [q] at e
    have e' : (b, o) = p := Option.some.inj e
    subst e'
    exact ⟨hb, q⟩
theorem Inv.pinned {pins : List (Addr × Obj)} {σ : St} {H : Hp} {s : Shared} {fp : List Addr} (I : Inv X pins σ H s) (hf : ∀ b ∈ fp, FpOk X pins H b) (ho : ∀ b ∈ fp, ∃ o, s.heap.get? b = some o ∧ ∀ v, o.data ≠ .cell v) : Inv X (pins ++ pinsAt fp s.heap) σ H s :=
  I.pins_of fun p hp => (List.mem_append.mp hp).elim (fun z => I.pin p (List.mem_append_right _ z)) fun z => by
    obtain ⟨hb, e⟩ := of_pinsAt z
    obtain ⟨f0, f1, f2, _⟩ := hf p.1 hb
    obtain ⟨o, e', d⟩ := ho p.1 hb
    rw [e] at e'; cases e'
    exact ⟨e, f0, f1, f2, d⟩
theorem Inv.unpinned {pins pl : List (Addr × Obj)} {σ : St} {H : Hp} {s : Shared} (I : Inv X (pins ++ pl) σ H s) : Inv X pins σ H s := I.pins_of fun p hp => I.pin p (List.mem_append_right _ (List.mem_append_left _ hp))
theorem ps_for {iter : Expr} {body : List Stmt} {wi : TI} {g : TG} {tb : TS} {pos : Pos} (hp : PassesOwn (model X.prog X.w) X.A X.env X.xe) (hc : X.calm = true) (hi : PI X tg iter wi) (hg : PG X tg g) (hb : PSs X body tb)
    (hs : ∀ x, foldedSetIterable iter X.env x = pure x := by intro _; rfl) : PS X (.For tg iter body [] pos) (tFor wi g tb) := by
  intro pins s σ H D I h
  refine wpAny_For (thn (hi pins s σ H _ I h) fun v s1 h1 => thn h1 fun itv s2 h2 => ?_) hs
  obtain ⟨it, fp, tn, J, H2, e, I2, T, st2, f2, W, ⟨m0, w0⟩, turn⟩ := h2
  subst e
  -- what stays true of the iterator's objects through the loop
  have stat : ∀ {H' : Hp}, (∀ b ∈ fp, H' b = none) → ∀ b ∈ fp, FpOk X pins H' b := fun hn b hb => ⟨hn b hb, (f2 b hb).2⟩
  refine codeAny_forLoop_any (fun n s' => ∃ i σ' H', Inv X pins σ' H' s' ∧ tn i s'.heap ∧ (∀ b ∈ fp, H' b = none) ∧ W i n σ' H') ?_ m0 ⟨0, σ, H2, I2, st2, fun b hb => (f2 b hb).1, w0⟩
  rintro n s3 ⟨i, σ3, H3, I3, st3, fr3, w3⟩
  rcases turn i n σ3 H3 w3 with ⟨stop, qn⟩ | ⟨go, N, hN, step⟩
  · refine wpAny_passesOwn hp (thn (T.done X rfl rfl rfl hc i pins s3 σ3 H3 X.xe I3 (stat fr3) st3 stop) fun r s4 ⟨hr, I4⟩ => ?_)
    subst hr
    exact wpAny_execs_nil ⟨σ3, H3, I4, qn⟩
  · refine wpAny_passesOwn hp (thn (T.item X rfl rfl rfl hc i pins s3 σ3 H3 X.xe I3 (stat fr3) st3 go) fun r s4 ⟨u, hr, h4⟩ => ?_)
    subst hr
    refine wpAny_passesOwn hp (thn h4 fun _ s5 ⟨x, H5, I5, r5, y5, st5, fr5⟩ => ?_)
    have I5' := I5.pinned (stat fr5) (T.obj _ _ st5)
    refine wpAny_passesOwn hp (thn (hg _ s5 σ3 H5 x u _ I5' r5 (step x H5 y5)) fun _ s6 ⟨σ6, H6, I6, q6⟩ => ?_)
    refine wpAny_passesOwn hp (thn (hb _ s6 σ6 H6 _ I6 q6) fun f s7 q7 => ?_)
    have again : ∀ {σ7 : St} {H7 : Hp}, Inv X (pins ++ pinsAt fp s5.heap) σ7 H7 s7 → N σ7 H7 → ∃ m, m < n ∧ ∃ i σ' H', Inv X pins σ' H' s7 ∧ tn i s7.heap ∧ (∀ b ∈ fp, H' b = none) ∧ W i m σ' H' := fun {σ7 H7} I7 n7 => by
      obtain ⟨m', hm, w7⟩ := hN σ7 H7 n7
      refine ⟨m', hm, i + 1, σ7, H7, I7.unpinned, T.keep _ _ _ st5 fun b hb o e => (I7.pin (b, o) (List.mem_append_right _ (List.mem_append_right _ (mem_pinsAt hb e)))).1, fun b hb => ?_, w7⟩
      obtain ⟨o, e, d⟩ := T.obj _ _ st5 b hb
      exact (I7.pin (b, o) (List.mem_append_right _ (List.mem_append_right _ (mem_pinsAt hb e)))).2.1
    cases f with
    | next => obtain ⟨σ7, H7, I7, n7⟩ := q7; exact again I7 n7
    | cont => obtain ⟨σ7, H7, I7, n7⟩ := q7; exact again I7 n7
    | brk => obtain ⟨σ7, H7, I7, q7⟩ := q7; exact ⟨σ7, H7, I7.unpinned, q7⟩
    | ret v => obtain ⟨x7, σ7, H7, I7, r7, q7⟩ := q7; exact ⟨x7, σ7, H7, I7.unpinned, r7, q7⟩
end

/-! ### the forms one uses -/
/-- over a list that the body leaves as it is -/
theorem for_list {K : PySem.W.Frag} {a : Addr} {xs : List V} {g : TG} {tb : TS} {D : Ends} {σ : St} {H : Hp} (Pv : Nat → St → Hp → Prop) (h0 : Pv 0 σ H) (hl : ∀ i σ H, i ≤ xs.length → Pv i σ H → SqL K H a xs)
    (hs : ∀ i x σ H, xs[i]? = some x → Pv i σ H → g x σ H fun σ2 H2 => tb { D with nx := Pv (i + 1), ct := Pv (i + 1), bk := D.nx } σ2 H2) (hd : ∀ σ H, Pv xs.length σ H → D.nx σ H) :
    ∃ W : Nat → Nat → St → Hp → Prop, (∃ m, W 0 m σ H) ∧ ∀ i m σ H, W i m σ H →
      ((Itl K a).stop i H ∧ D.nx σ H) ∨ ((Itl K a).go i H ∧ ∃ N : St → Hp → Prop, (∀ σ' H', N σ' H' → ∃ m', m' < m ∧ W (i + 1) m' σ' H') ∧ ∀ x H', (Itl K a).yld i H x H' → g x σ H' fun σ2 H2 => tb { D with nx := N, ct := N, bk := D.nx } σ2 H2) := by
  refine ⟨fun i m σ H => m = xs.length - i ∧ i ≤ xs.length ∧ Pv i σ H, ⟨xs.length, by simp, Nat.zero_le _, h0⟩, ?_⟩
  rintro i m σ H ⟨rfl, hi, p⟩
  have q := hl i σ H hi p
  by_cases hlt : i < xs.length
  · refine .inr ⟨⟨xs, xs[i], q, by simp [hlt]⟩, Pv (i + 1), fun σ' H' p' => ⟨xs.length - (i + 1), by omega, rfl, hlt, p'⟩, fun x H' y => ?_⟩
    obtain ⟨e, y⟩ := y
    subst e
    exact hs i x σ _ (y xs q) p
  · have e : i = xs.length := by omega
    subst e
    exact .inl ⟨⟨xs, q, Nat.le_refl _⟩, hd σ H p⟩
theorem for_tup {K : PySem.W.Frag} {a : Addr} {xs : List V} {g : TG} {tb : TS} {D : Ends} {σ : St} {H : Hp} (Pv : Nat → St → Hp → Prop) (h0 : Pv 0 σ H) (hl : ∀ i σ H, i ≤ xs.length → Pv i σ H → SqT K H a xs)
    (hs : ∀ i x σ H, xs[i]? = some x → Pv i σ H → g x σ H fun σ2 H2 => tb { D with nx := Pv (i + 1), ct := Pv (i + 1), bk := D.nx } σ2 H2) (hd : ∀ σ H, Pv xs.length σ H → D.nx σ H) :
    ∃ W : Nat → Nat → St → Hp → Prop, (∃ m, W 0 m σ H) ∧ ∀ i m σ H, W i m σ H →
      ((Itt K a).stop i H ∧ D.nx σ H) ∨ ((Itt K a).go i H ∧ ∃ N : St → Hp → Prop, (∀ σ' H', N σ' H' → ∃ m', m' < m ∧ W (i + 1) m' σ' H') ∧ ∀ x H', (Itt K a).yld i H x H' → g x σ H' fun σ2 H2 => tb { D with nx := N, ct := N, bk := D.nx } σ2 H2) := by
  refine ⟨fun i m σ H => m = xs.length - i ∧ i ≤ xs.length ∧ Pv i σ H, ⟨xs.length, by simp, Nat.zero_le _, h0⟩, ?_⟩
  rintro i m σ H ⟨rfl, hi, p⟩
  have q := hl i σ H hi p
  by_cases hlt : i < xs.length
  · refine .inr ⟨⟨xs, xs[i], q, by simp [hlt]⟩, Pv (i + 1), fun σ' H' p' => ⟨xs.length - (i + 1), by omega, rfl, hlt, p'⟩, fun x H' y => ?_⟩
    obtain ⟨e, y⟩ := y
    subst e
    exact hs i x σ _ (y xs q) p
  · have e : i = xs.length := by omega
    subst e
    exact .inl ⟨⟨xs, q, Nat.le_refl _⟩, hd σ H p⟩
theorem for_range {lo : Int} {n : Nat} {g : TG} {tb : TS} {D : Ends} {σ : St} {H : Hp} (Pv : Nat → St → Hp → Prop) (h0 : Pv 0 σ H)
    (hs : ∀ i σ H, i < n → Pv i σ H → g (.int (lo + i)) σ H fun σ2 H2 => tb { D with nx := Pv (i + 1), ct := Pv (i + 1), bk := D.nx } σ2 H2) (hd : ∀ σ H, Pv n σ H → D.nx σ H) :
    ∃ W : Nat → Nat → St → Hp → Prop, (∃ m, W 0 m σ H) ∧ ∀ i m σ H, W i m σ H →
      ((Itr lo n).stop i H ∧ D.nx σ H) ∨ ((Itr lo n).go i H ∧ ∃ N : St → Hp → Prop, (∀ σ' H', N σ' H' → ∃ m', m' < m ∧ W (i + 1) m' σ' H') ∧ ∀ x H', (Itr lo n).yld i H x H' → g x σ H' fun σ2 H2 => tb { D with nx := N, ct := N, bk := D.nx } σ2 H2) := by
  refine ⟨fun i m σ H => m = n - i ∧ i ≤ n ∧ Pv i σ H, ⟨n, by simp, Nat.zero_le _, h0⟩, ?_⟩
  rintro i m σ H ⟨rfl, hi, p⟩
  by_cases hlt : i < n
  · refine .inr ⟨hlt, Pv (i + 1), fun σ' H' p' => ⟨n - (i + 1), by omega, rfl, hlt, p'⟩, fun x H' y => ?_⟩
    obtain ⟨e, y⟩ := y
    subst e y
    exact hs i σ _ hlt p
  · have e : i = n := by omega
    subst e
    exact .inl ⟨Nat.le_refl _, hd σ H p⟩
end L2

namespace L2
open PySem PySem.Spec PyProof.Rows

noncomputable abbrev R2 := V → V → Hp → VK → Prop
/-- a two-place operation on values: f is binaryOp op, inplaceOp op or compareOp op -/
noncomputable def OpR (X : Cx) (f : Value → Value → Sem Value) (r : R2) : Prop :=
  ∀ (pins : List (Addr × Obj)) (s : Shared) (σ : St) (H : Hp) (x y : V) (v u : Value) (Q : VK), Inv X pins σ H s → RelV x v → RelV y u → r x y H Q →
    wpAny (model X.prog X.w) X.A (f v u) (EP X pins σ Q) X.xe s
/-- a one-place operation -/
noncomputable def UnR (X : Cx) (f : Value → Sem Value) (r : V → Hp → VK → Prop) : Prop :=
  ∀ (pins : List (Addr × Obj)) (s : Shared) (σ : St) (H : Hp) (x : V) (v : Value) (Q : VK), Inv X pins σ H s → RelV x v → r x H Q →
    wpAny (model X.prog X.w) X.A (f v) (EP X pins σ Q) X.xe s
/-- a call of a value that is known (a builtin, a type) with values -/
noncomputable def CallR (X : Cx) (f : Value) (r : List V → Hp → VK → Prop) : Prop :=
  ∀ (pins : List (Addr × Obj)) (s : Shared) (σ : St) (H : Hp) (xs : List V) (us : List Value) (Q : VK), Inv X pins σ H s → Vals xs us → r xs H Q →
    wpAny (model X.prog X.w) X.A (call f us) (EP X pins σ Q) X.xe s
/-- a value's truth -/
noncomputable def TruR (X : Cx) (r : V → Hp → (Bool → Hp → Prop) → Prop) : Prop :=
  ∀ (pins : List (Addr × Obj)) (s : Shared) (σ : St) (H : Hp) (x : V) (v : Value) (Q : Bool → Hp → Prop), Inv X pins σ H s → RelV x v → r x H Q →
    wpAny (model X.prog X.w) X.A (truthy v) (TP X pins σ Q) X.xe s

noncomputable def tOp (r : R2) (ta tb : TE) : TE := fun σ H Q => ta σ H fun x H1 => tb σ H1 fun y H2 => r x y H2 Q
noncomputable def tUn (r : V → Hp → VK → Prop) (ta : TE) : TE := fun σ H Q => ta σ H fun x H1 => r x H1 Q
/-- ints in, under C, and a value out -/
noncomputable def rI (C : Int → Int → Prop) (g : Int → Int → V) : R2 := fun x y H Q => ∃ i j, x = .int i ∧ y = .int j ∧ C i j ∧ Q (g i j) H
noncomputable def rI0 (g : Int → Int → V) : R2 := fun x y H Q => ∃ i j, x = .int i ∧ y = .int j ∧ Q (g i j) H
noncomputable def rU (g : Int → V) : V → Hp → VK → Prop := fun x H Q => ∃ i, x = .int i ∧ Q (g i) H

section
variable {X : Cx} {a b c : Expr} {ta tb tc : TE} {pos : Pos}

theorem binT (ha : PE X a ta) (hb : PE X b tb) {pins : List (Addr × Obj)} {s : Shared} {σ : St} {H : Hp} {R : V → V → Hp → Prop} (I : Inv X pins σ H s)
    (h : ta σ H fun x H1 => tb σ H1 fun y H2 => R x y H2) {Q : Value → Shared → Prop} {f : Value → Value → Sem Value}
    (hf : ∀ v u s2 x y H2, Inv X pins σ H2 s2 → RelV x v → RelV y u → R x y H2 → wpAny (model X.prog X.w) X.A (f v u) Q X.xe s2) :
    wpAny (model X.prog X.w) X.A (eval a X.env) (fun v s₁ => wpAny (model X.prog X.w) X.A (eval b X.env) (fun u s₂ => wpAny (model X.prog X.w) X.A (f v u) Q X.xe s₂) X.xe s₁) X.xe s := by
  refine thn (ha pins s σ H _ I h) fun v s1 ⟨x, H1, I1, r1, q1⟩ => ?_
  refine thn (hb pins s1 σ H1 _ I1 q1) fun u s2 ⟨y, H2, I2, r2, q2⟩ => ?_
  exact hf v u s2 x y H2 I2 r1 r2 q2

theorem pe_op {op : Operator} {r : R2} (ho : OpR X (binaryOp op) r) (ha : PE X a ta) (hb : PE X b tb) : PE X (.BinOp a op b pos) (tOp r ta tb) := by
  intro pins s σ H Q I h
  exact wpAny_BinOp (binT ha hb I h fun v u s2 x y H2 I2 rx ry q => ho pins s2 σ H2 x y v u Q I2 rx ry q)
theorem pe_un {op : UnaryOp} {r : V → Hp → VK → Prop} (ho : UnR X (unaryOp op) r) (ha : PE X a ta) : PE X (.UnaryOp op a pos) (tUn r ta) := by
  intro pins s σ H Q I h
  exact UnaryOp_ (thn (ha pins s σ H _ I h) fun v s1 ⟨x, H1, I1, r1, q1⟩ => ho pins s1 σ H1 x v Q I1 r1 q1)

/-! ### ints -/
theorem opI {f : Value → Value → Sem Value} {C : Int → Int → Prop} {g : Int → Int → Int}
    (rule : ∀ (i j : Int) (t u : Tok) (s : Shared) (Q : Value → Shared → Prop) (E : Value → Shared → Prop), C i j → Q (.int (g i j) s.toks) { s with toks := s.toks + 1 } → wpAny (model X.prog X.w) X.A (f (.int i t) (.int j u)) Q E s) :
    OpR X f (rI C fun i j => .int (g i j)) := by
  intro pins s σ H x y v u Q I rx ry h
  obtain ⟨i, j, rfl, rfl, hc, q⟩ := h
  obtain ⟨t, rfl⟩ := rx
  obtain ⟨t', rfl⟩ := ry
  exact rule i j t t' s _ _ hc ⟨.int (g i j), H, I.tok _, ⟨_, rfl⟩, q⟩
theorem opI0 {f : Value → Value → Sem Value} {g : Int → Int → Int}
    (rule : ∀ (i j : Int) (t u : Tok) (s : Shared) (Q : Value → Shared → Prop) (E : Value → Shared → Prop), Q (.int (g i j) s.toks) { s with toks := s.toks + 1 } → wpAny (model X.prog X.w) X.A (f (.int i t) (.int j u)) Q E s) :
    OpR X f (rI0 fun i j => .int (g i j)) := by
  intro pins s σ H x y v u Q I rx ry h
  obtain ⟨i, j, rfl, rfl, q⟩ := h
  obtain ⟨t, rfl⟩ := rx
  obtain ⟨t', rfl⟩ := ry
  exact rule i j t t' s _ _ ⟨.int (g i j), H, I.tok _, ⟨_, rfl⟩, q⟩
theorem opB0 {f : Value → Value → Sem Value} {g : Int → Int → Bool}
    (rule : ∀ (i j : Int) (t u : Tok) (s : Shared) (Q : Value → Shared → Prop) (E : Value → Shared → Prop), Q (.bool (g i j)) s → wpAny (model X.prog X.w) X.A (f (.int i t) (.int j u)) Q E s) :
    OpR X f (rI0 fun i j => .bl (g i j)) := by
  intro pins s σ H x y v u Q I rx ry h
  obtain ⟨i, j, rfl, rfl, q⟩ := h
  obtain ⟨t, rfl⟩ := rx
  obtain ⟨t', rfl⟩ := ry
  exact rule i j t t' s _ _ ⟨.bl (g i j), H, I, rfl, q⟩

noncomputable def CPow (i j : Int) : Prop := 0 ≤ j ∧ j ≤ 1000000 ∧ i.natAbs < 2 ^ 64
noncomputable def CMul (i j : Int) : Prop := (-(2 ^ 64) < i ∧ i < 2 ^ 64) ∨ (-(2 ^ 64) < j ∧ j < 2 ^ 64)
theorem CMul.ok {i j : Int} (h : CMul i j) : IntMulOk i j := by
  rcases h with ⟨h1, h2⟩ | ⟨h1, h2⟩
  · exact .of_left (intBits_le_64 h1 h2)
  · exact .of_right (intBits_le_64 h1 h2)

theorem op_add : OpR X (binaryOp .Add) (rI0 fun i j => .int (i + j)) := opI0 fun _ _ _ _ _ _ _ q => add_int q
theorem op_sub : OpR X (binaryOp .Sub) (rI0 fun i j => .int (i - j)) := opI0 fun _ _ _ _ _ _ _ q => sub_int q
theorem op_mul : OpR X (binaryOp .Mult) (rI CMul fun i j => .int (i * j)) := opI fun _ _ _ _ _ _ _ hc q => mul_int q hc.ok
/-- % by a positive divisor of any size -/
theorem op_mod : OpR X (binaryOp .Mod) (rI (fun _ j => 0 < j) fun i j => .int (i % j)) := opI fun i j _ _ _ _ _ hc q => by
  have h1 : (0 : Int) < j := hc
  exact mod_int' (by omega) (by rw [Int.fmod_eq_emod_of_nonneg i (by omega)]; exact q)
theorem op_pow : OpR X (binaryOp .Pow) (rI CPow fun i j => .int (i ^ j.toNat)) := opI fun _ _ _ _ _ _ _ hc q => pow_int_small hc.1 hc.2.1 hc.2.2 q


theorem unI {f : Value → Sem Value} {g : Int → Int}
    (rule : ∀ (i : Int) (t : Tok) (s : Shared) (Q : Value → Shared → Prop) (E : Value → Shared → Prop), Q (.int (g i) s.toks) { s with toks := s.toks + 1 } → wpAny (model X.prog X.w) X.A (f (.int i t)) Q E s) :
    UnR X f (rU fun i => .int (g i)) := by
  intro pins s σ H x v Q I rx h
  obtain ⟨i, rfl, q⟩ := h
  obtain ⟨t, rfl⟩ := rx
  exact rule i t s _ _ ⟨.int (g i), H, I.tok _, ⟨_, rfl⟩, q⟩
theorem un_neg : UnR X (unaryOp .USub) (rU fun i => .int (-i)) := unI fun _ _ _ _ _ q => neg_int q

/-! ### bools among ints: n += (a < b) -/
end

/-! ### comparisons -/
/-- the scalars that == tells apart as data does -/
noncomputable def scal : V → V → Bool
  | .non, .non => true | .non, .int _ => true | .int _, .non => true | .non, .bl _ => true | .bl _, .non => true | .non, .str _ => true | .str _, .non => true
  | .int _, .int _ => true | .bl _, .bl _ => true | .str _, .str _ => true | .byt _, .byt _ => true
  | .int _, .str _ => true | .str _, .int _ => true | .bl _, .str _ => true | .str _, .bl _ => true
  | _, _ => false
noncomputable def rEq : R2 := fun x y H Q => scal x y = true ∧ Q (.bl (decide (x = y))) H

theorem dec_int {i j : Int} : decide (V.int i = V.int j) = (i == j) := by
  rw [Bool.eq_iff_iff]
  simp
theorem dec_bl {i j : Bool} : decide (V.bl i = V.bl j) = (i == j) := by
  rw [Bool.eq_iff_iff]
  simp
theorem dec_str {i j : Str} : decide (V.str i = V.str j) = (i == j) := by
  rw [Bool.eq_iff_iff]
  simp
theorem dec_byt {i j : Array UInt8} : decide (V.byt i = V.byt j) = (i.toList == j.toList) := by
  rw [Bool.eq_iff_iff]
  cases i
  cases j
  simp

section
variable {X : Cx} {a b c : Expr} {ta tb tc : TE} {pos : Pos}
theorem fin_bl {pins : List (Addr × Obj)} {σ : St} {H : Hp} {s : Shared} {Q : VK} {k k' : Bool} (I : Inv X pins σ H s) (q : Q (.bl k) H) (e : k = k') : EP X pins σ Q (.bool k') s := by
  subst e
  exact ⟨.bl k, H, I, rfl, q⟩
theorem op_eq : OpR X (compareOp .Eq) rEq := by
  intro pins s σ H x y v u Q I rx ry h
  obtain ⟨hs, q⟩ := h
  cases x with
  | non =>
    cases rx
    cases y with
    | non => cases ry; exact PySem.EqNone.eq_none_none (fin_bl I q (by simp))
    | bl j => cases ry; exact PySem.EqNone.eq_none_bool (fin_bl I q (by simp))
    | int j => obtain ⟨t', rfl⟩ := ry; exact PySem.EqNone.eq_none_int (fin_bl I q (by simp))
    | str j => obtain ⟨t', rfl⟩ := ry; exact PySem.EqNone.eq_none_str (fin_bl I q (by simp))
    | _ => exact absurd (show false = true from hs) Bool.false_ne_true
  | bl i =>
    cases rx
    cases y with
    | non => cases ry; exact PySem.EqNone.eq_bool_none (fin_bl I q (by simp))
    | bl j => cases ry; exact eq_bool (fin_bl I q dec_bl)
    | str j => obtain ⟨t', rfl⟩ := ry; exact PySem.EqMixed.eq_bool_str (fin_bl I q (by simp))
    | _ => exact absurd (show false = true from hs) Bool.false_ne_true
  | int i =>
    obtain ⟨t, rfl⟩ := rx
    cases y with
    | non => cases ry; exact PySem.EqNone.eq_int_none (fin_bl I q (by simp))
    | int j => obtain ⟨t', rfl⟩ := ry; exact eq_int (fin_bl I q dec_int)
    | str j => obtain ⟨t', rfl⟩ := ry; exact PySem.EqMixed.eq_int_str (fin_bl I q (by simp))
    | _ => exact absurd (show false = true from hs) Bool.false_ne_true
  | str i =>
    obtain ⟨t, rfl⟩ := rx
    cases y with
    | non => cases ry; exact PySem.EqNone.eq_str_none (fin_bl I q (by simp))
    | bl j => cases ry; exact PySem.EqMixed.eq_str_bool (fin_bl I q (by simp))
    | int j => obtain ⟨t', rfl⟩ := ry; exact PySem.EqMixed.eq_str_int (fin_bl I q (by simp))
    | str j => obtain ⟨t', rfl⟩ := ry; exact eq_str (fin_bl I q dec_str)
    | _ => exact absurd (show false = true from hs) Bool.false_ne_true
  | byt i =>
    obtain ⟨t, rfl⟩ := rx
    cases y with
    | byt j => obtain ⟨t', rfl⟩ := ry; exact PySem.W.eq_bytes (fin_bl I q dec_byt)
    | _ => exact absurd (show false = true from hs) Bool.false_ne_true
  | _ => cases y <;> exact absurd (show false = true from hs) Bool.false_ne_true

theorem op_lt : OpR X (compareOp .Lt) (rI0 fun i j => .bl (decide (i < j))) := opB0 fun _ _ _ _ _ _ _ q => lt_int q
theorem op_le : OpR X (compareOp .LtE) (rI0 fun i j => .bl (decide (i ≤ j))) := opB0 fun _ _ _ _ _ _ _ q => le_int q
theorem op_gt : OpR X (compareOp .Gt) (rI0 fun i j => .bl (decide (j < i))) := opB0 fun _ _ _ _ _ _ _ q => gt_int q
/-- the one string within the other -/
theorem op_in_str : OpR X (compareOp .In) (fun x y H Q => ∃ i j, x = .str i ∧ y = .str j ∧ Q (.bl (!(Builtin.Str.occurrences j i 0 j.length 1).isEmpty)) H) := by
  intro pins s σ H x y v u Q I rx ry h
  obtain ⟨i, j, rfl, rfl, q⟩ := h
  obtain ⟨t, rfl⟩ := rx
  obtain ⟨t', rfl⟩ := ry
  exact in_str (fin_bl I q rfl)




theorem nomark (b : Expr) {op : CmpOp} (h : op ≠ .In := by decide) (h2 : op ≠ .NotIn := by decide) : behindInMarks op b = false := by
  have e1 : (op == CmpOp.In) = false := by cases op <;> first | rfl | exact absurd rfl h
  have e2 : (op == CmpOp.NotIn) = false := by cases op <;> first | rfl | exact absurd rfl h2
  cases b <;> simp [behindInMarks, e1, e2]
/-- a comparison as a value; hm: nomark b, or (for in, not in) by with_unfolding_all rfl -/
theorem pe_cmpR {op : CmpOp} {r : R2} (ho : OpR X (compareOp op) r) (ha : PE X a ta) (hb : PE X b tb) (hm : behindInMarks op b = false) : PE X (.Compare a [op] [b] pos) (tOp r ta tb) := by
  intro pins s σ H Q I h
  exact wpAny_Compare1 (binT ha hb I h fun v u s2 x y H2 I2 rx ry q => ho pins s2 σ H2 x y v u Q I2 rx ry q) hm
/-- a reading of a value as a test -/
noncomputable def tTest (t : TE) : TT := fun σ H Q => t σ H fun x H' => ∃ k, x = .bl k ∧ Q k H'
theorem pt_cmpR {op : CmpOp} {r : R2} (ho : OpR X (compareOp op) r) (ha : PE X a ta) (hb : PE X b tb) (hm : behindInMarks op b = false) : PT X (.Compare a [op] [b] pos) (tTest (tOp r ta tb)) := by
  intro pins s σ H Q I h
  refine wpAny_isTrue_Compare1 (thn (ha pins s σ H _ I h) fun v s1 ⟨x, H1, I1, r1, q1⟩ => thn (hb pins s1 σ H1 _ I1 q1) fun u s2 ⟨y, H2, I2, r2, q2⟩ =>
    thn (ho pins s2 σ H2 x y v u _ I2 r1 r2 q2) fun c s3 ⟨z, H3, I3, r3, k, e, q3⟩ => ?_) hm
  subst e
  cases r3
  exact wpAny_truthy_bool ⟨H3, I3, q3⟩
/-- a op1 b op2 c -/
noncomputable def tChain (r r' : R2) (ta tb tc : TE) : TE := fun σ H Q => ta σ H fun x H1 => tb σ H1 fun y H2 => r x y H2 fun z H3 => ∃ k, z = .bl k ∧
  (if k = true then tc σ H3 fun w' H4 => r' y w' H4 Q else Q (.bl false) H3)
theorem pt_chain {op op' : CmpOp} {r r' : R2} (ho : OpR X (compareOp op) r) (ho' : OpR X (compareOp op') r') (ha : PE X a ta) (hb : PE X b tb) (hc : PE X c tc)
    (hm : lastMarks [op, op'] [b, c] = false := by with_unfolding_all rfl) : PT X (.Compare a [op, op'] [b, c] pos) (tTest (tChain r r' ta tb tc)) := by
  intro pins s σ H Q I h
  refine isTrue_chain (thn (ha pins s σ H _ I h) fun v s1 ⟨x, H1, I1, r1, q1⟩ => test_link (thn (hb pins s1 σ H1 _ I1 q1) fun u s2 ⟨y, H2, I2, r2, q2⟩ =>
    thn (ho pins s2 σ H2 x y v u _ I2 r1 r2 q2) fun d s3 ⟨z, H3, I3, r3, k, e, q3⟩ => ?_)) hm
  subst e
  cases r3
  refine wpAny_truthy_bool ?_
  cases k with
  | false =>
    obtain ⟨k', e', q'⟩ := q3
    cases e'
    exact ite_ff ⟨H3, I3, q'⟩
  | true =>
    refine ite_tt (test_last (thn (hc pins s3 σ H3 _ I3 q3) fun w' s4 ⟨z', H4, I4, r4, q4⟩ => thn (ho' pins s4 σ H4 y z' u w' _ I4 r2 r4 q4) fun d' s5 ⟨z2, H5, I5, r5, k2, e2, q5⟩ => ?_))
    subst e2
    cases r5
    exact wpAny_truthy_bool ⟨H5, I5, q5⟩

/-! ### truth -/
/-- a value's truth by the abstract heap -/
noncomputable def TruV (K : PySem.W.Frag) (x : V) (H : Hp) (k : Bool) : Prop :=
  match x with
  | .non => k = false
  | .bl b => k = b
  | .int i => k = (i != 0)
  | .str y => y.length ≤ sizeLine ∧ k = ((y.length : Int) != 0)
  | .byt y => y.size ≤ sizeLine ∧ k = ((y.size : Int) != 0)
  | .ref p => (∃ xs, SqL K H p xs ∧ k = !xs.isEmpty) ∨ (∃ xs, SqT K H p xs ∧ k = !xs.isEmpty) ∨ ∃ kvs, H p = some (.dK kvs) ∧ k = !kvs.isEmpty
  | _ => False
theorem isEmpty_kv {κ : Type} {kvs : List (κ × V)} {vs : List (κ × Value)} (r : KV kvs vs) : (!vs.isEmpty) = !kvs.isEmpty := by
  cases r <;> rfl
theorem isEmpty_of {xs : List V} {its : List Value} (r : Vals xs its) : (!its.toArray.isEmpty) = !xs.isEmpty := by
  cases r <;> simp
theorem line63 : (sizeLine : Nat) < 2 ^ 63 := by rw [sizeLine_eq]; decide
theorem tru_ok : TruR X (fun x H Q => ∃ k, TruV X.K x H k ∧ Q k H) := by
  intro pins s σ H x v Q I rx h
  obtain ⟨k, e, q⟩ := h
  have hl := line63
  have hs : sizeLine = 16777216 := sizeLine_eq
  cases x with
  | non =>
    cases rx
    have e' : k = false := e
    subst e'
    exact truthy_none ⟨H, I, q⟩
  | bl b =>
    cases rx
    have e' : k = b := e
    subst e'
    exact wpAny_truthy_bool ⟨H, I, q⟩
  | int i =>
    obtain ⟨t, rfl⟩ := rx
    have e' : k = (i != 0) := e
    subst e'
    exact PySem.P.truthy_int ⟨H, I, q⟩
  | str y =>
    obtain ⟨t, rfl⟩ := rx
    obtain ⟨hy, e'⟩ : y.length ≤ sizeLine ∧ k = ((y.length : Int) != 0) := e
    subst e'
    exact PySem.P.truthy_str (by omega) ⟨H, I.tok _, q⟩
  | byt y =>
    obtain ⟨t, rfl⟩ := rx
    obtain ⟨hy, e'⟩ : y.size ≤ sizeLine ∧ k = ((y.size : Int) != 0) := e
    subst e'
    exact PySem.W.truthy_bytes (by omega) ⟨H, I.tok _, q⟩
  | ref p =>
    cases rx
    have e' : (∃ xs, SqL X.K H p xs ∧ k = !xs.isEmpty) ∨ (∃ xs, SqT X.K H p xs ∧ k = !xs.isEmpty) ∨ ∃ kvs, H p = some (.dK kvs) ∧ k = !kvs.isEmpty := e
    rcases e' with ⟨xs, hx, e'⟩ | ⟨xs, hx, e'⟩ | ⟨kvs, hx, e'⟩
    · subst e'
      obtain ⟨its, r, pl, hz⟩ := I.list hx
      have hlen := r.length
      exact wpAny_truthy_list pl.isList (by simp only [List.size_toArray]; omega) ⟨H, I.tok _, by rw [isEmpty_of r]; exact q⟩
    · subst e'
      obtain ⟨its, r, pl, hz⟩ := I.tuple hx
      have hlen := r.length
      exact truthy_tuple pl (by simp only [List.size_toArray]; omega) ⟨H, I.tok _, by rw [isEmpty_of r]; exact q⟩
    · subst e'
      obtain ⟨hz, hS, vs, r, m⟩ : kvs.length ≤ sizeLine ∧ (p == sysModules) = false ∧ ∃ vs, KV kvs vs ∧ s.heap.DictOf (mixKind X.prog X.w) p vs := I.hok p _ hx
      have hlen : kvs.length = vs.length := Paired.length r
      exact wpAny_truthy_dict hS m (by omega) ⟨H, I.tok _, by rw [isEmpty_kv r]; exact q⟩
  | _ => exact (show False from e).elim
/-- any expression whose test is its value's truth (a name, a call, a subscript, a field ..: he by fun _ => rfl) -/
theorem pt_truth (ha : PE X a ta) (he : ∀ whole, isTrue a X.env whole = (do let v ← whole; standAt a.pos; holding [v] (truthy v))) :
    PT X a (fun σ H Q => ta σ H fun x H' => ∃ k, TruV X.K x H' k ∧ Q k H') := by
  intro pins s σ H Q I h
  exact isTrue_plain (thn (ha pins s σ H _ I h) fun v s1 ⟨x, H1, I1, r1, q1⟩ => tru_ok pins s1 σ H1 x v Q I1 r1 q1) (he _)

/-! ### strs and bytes -/
theorem op_add_str : OpR X (binaryOp .Add) (fun x y H Q => ∃ i j, x = .str i ∧ y = .str j ∧ i.length + j.length ≤ sizeLine ∧ Q (.str (i ++ j)) H) := by
  intro pins s σ H x y v u Q I rx ry h
  obtain ⟨i, j, rfl, rfl, hz, q⟩ := h
  obtain ⟨t, rfl⟩ := rx
  obtain ⟨t', rfl⟩ := ry
  exact add_str (fun t' tk => ⟨.str (i ++ j), H, I.tok _, ⟨_, rfl⟩, q⟩) hz


/-! ### scalar builtins, by CallR -/
theorem vals1 {x : V} {us : List Value} (r : Vals [x] us) : ∃ u, us = [u] ∧ RelV x u := by
  cases r with
  | cons r1 r2 => cases r2; exact ⟨_, rfl, r1⟩
theorem vals2 {x y : V} {us : List Value} (r : Vals [x, y] us) : ∃ u w', us = [u, w'] ∧ RelV x u ∧ RelV y w' := by
  cases r with
  | cons r1 r2 =>
    cases r2 with
    | cons r3 r4 => cases r4; exact ⟨_, _, rfl, r1, r3⟩
theorem call_max2 (hc : X.calm = true) : CallR X (.builtin "max") (fun xs H Q => ∃ i j, xs = [.int i, .int j] ∧ Q (.int (if j > i then j else i)) H) := by
  intro pins s σ H xs us Q I r h
  obtain ⟨i, j, rfl, q⟩ := h
  obtain ⟨u, w', rfl, ⟨t, rfl⟩, ⟨t', rfl⟩⟩ := vals2 r
  refine max_two_ints (I.ok.hd hc) fun h' tk k => ⟨_, H, I.kept k, ?_, q⟩
  by_cases hj : j > i
  · rw [if_pos hj, if_pos hj]; exact ⟨_, rfl⟩
  · rw [if_neg hj, if_neg hj]; exact ⟨_, rfl⟩
theorem call_int1 : CallR X (.type "int") (fun xs H Q => (∃ i, xs = [.int i] ∧ Q (.int i) H) ∨ ∃ k, xs = [.bl k] ∧ Q (.int (if k then 1 else 0)) H) := by
  intro pins s σ H xs us Q I r h
  rcases h with ⟨i, rfl, q⟩ | ⟨k, rfl, q⟩
  · obtain ⟨u, rfl, t, rfl⟩ := vals1 r
    exact call_int_int ⟨.int i, H, I, ⟨_, rfl⟩, q⟩
  · obtain ⟨u, rfl, r1⟩ := vals1 r
    cases r1
    exact call_int_bool ⟨.int (if k then 1 else 0), H, I.tok _, ⟨_, rfl⟩, q⟩
end
end L2

namespace L2
open PySem PySem.Spec PyProof.Rows

/-! ### an instance, its attributes a map -/
structure ObjM (h : Heap) (x dx C : Addr) (mA : Str → Option Value) : Prop where
  obj : h.get? x = some (PySem.W.instObj C dx)
  ns : h.Ns1 dx mA
  ne : dx ≠ x

theorem lookIn_ns {h : Heap} {dx : Addr} {mA : Str → Option Value} (n : h.Ns1 dx mA) : ∃ od, h.get? dx = some od ∧ ∀ name, PySem.W.lookIn name od = some (mA name) := by
  obtain ⟨o, es, ep, ho, hd, hk, _, hm⟩ := n
  refine ⟨o, ho, fun name => ?_⟩
  have e := hm name
  unfold nsFind findBy at e
  rw [← Array.find?_toList] at e
  unfold PySem.W.lookIn
  rw [hd]
  dsimp only
  split
  · rename_i y q
    rw [q] at e
    exact congrArg some e
  · rename_i q
    rw [q] at e
    have a : es.toList.any (·.refKey) = false := by
      rw [List.any_eq_false]
      intro y hy
      obtain ⟨z, t, hkey⟩ := hk y (Array.mem_toList_iff.mp hy)
      simp [DictEntry.refKey, hkey]
    have a' : ¬ es.toList.any (·.refKey) = true := by rw [a]; exact Bool.false_ne_true
    rw [if_neg a']
    exact congrArg some e

theorem ObjM.look {h : Heap} {x dx C : Addr} {mA : Str → Option Value} (I : ObjM h x dx C mA) : ∃ od, PySem.W.InstAt h x (PySem.W.instObj C dx) C (some od) ∧ ∀ name, PySem.W.lookIn name od = some (mA name) :=
  let ⟨od, ho, hl⟩ := lookIn_ns I.ns
  ⟨od, ⟨I.obj, rfl, rfl, ho⟩, hl⟩

section
variable {prog : Program} {w : World} {A : Around} {E : Value → Shared → Prop} {s : Shared} {K : PySem.W.Frag} {x dx C f : Addr} {mA : Str → Option Value} {name : Str} {v : Value}





end

/-! ### the attributes as a list of pairs -/

theorem RelO.some_of {v : V} {o : Option Value} (r : RelO (some v) o) : ∃ u, o = some u ∧ RelV v u := by
  cases o with
  | none => exact (show False from r).elim
  | some u => exact ⟨u, rfl, r⟩

section
variable {P : Program} {w : World} {H H' : Hp} {h h' : Heap} {a C dx : Addr} {fs fs' : List (Str × V)}
theorem ins_get (hok : HOk P w H h) (e : H a = some (.ins C dx fs)) : ∃ mA, ObjM h a dx C mA ∧ (∀ f, RelO (fs.lookup f) (mA f)) ∧ PySem.Within mA (fs.map (·.1)) ∧ fs.length ≤ 1000 ∧ H dx = some (.own a) := by
  obtain ⟨d, z, ne, ob, mA, n, r, q⟩ := (show ObjOk P w H h a (.ins C dx fs) from hok a _ e)
  exact ⟨mA, ⟨ob, n, ne⟩, r, q, z, d⟩
end

/-! ### what of the text a class must have -/
structure Cls (K : PySem.W.Frag) (C : Addr) : Prop where
  pg : PySem.W.plainGet K C Str.empty = true
  hd : PySem.W.hasDictIn K C = true
  po : PySem.W.plainOver K C = true
  sa : PySem.W.findIn K (.ref C) "__setattr__" = some (some (.builtin "object.__setattr__"))
theorem Cls.get {K : PySem.W.Frag} {C : Addr} (c : Cls K C) (f : Str) : PySem.W.plainGet K C f = true := c.pg

section
variable {X : Cx} {pins : List (Addr × Obj)} {σ : St} {H : Hp} {s : Shared} {a C dx : Addr} {fs : List (Str × V)} {f : Str} {v : V} {A : Around} {E : Value → Shared → Prop}






end

/-! ### readings and rules -/

section
variable {X : Cx} {o e value : Expr} {f : Str} {pos pos' tpos : Pos} {ta tv : TE}

end

/-! ### isinstance -/
section
variable {X : Cx} {pins : List (Addr × Obj)} {σ : St} {H : Hp} {s : Shared} {A : Around} {E : Value → Shared → Prop} {Q : Value → Shared → Prop} {c : Value} {b : Bool}
/-- the type of a value, as the fragment's deciders take it; for an instance its class -/
inductive TyOf (K : PySem.W.Frag) (H : Hp) : V → Value → Prop where
  | non : TyOf K H .non (.type "NoneType")
  | bl (x : Bool) : TyOf K H (.bl x) (.type "bool")
  | int (i : Int) : TyOf K H (.int i) (.type "int")
  | str (x : Str) : TyOf K H (.str x) (.type "str")
  | flt (x : UInt64) : TyOf K H (.flt x) (.type "float")
  | lst {a : Addr} {xs : List V} (e : H a = some (.lst xs)) : TyOf K H (.ref a) (.type "list")
  | frz {a : Addr} {o : Obj} {xs : List V} (e : H a = some (.frz o (.lst xs))) : TyOf K H (.ref a) (.type "list")
  | tup {a : Addr} {xs : List V} (e : H a = some (.tup xs)) : TyOf K H (.ref a) (.type "tuple")
  | dK {a : Addr} {kvs : List (Key × V)} (e : H a = some (.dK kvs)) : TyOf K H (.ref a) (.type "dict")
  | dT {a : Addr} {kvs : List (List Key × V)} (e : H a = some (.dT kvs)) : TyOf K H (.ref a) (.type "dict")
  | ins {a C dx : Addr} {fs : List (Str × V)} (e : H a = some (.ins C dx fs)) (cl : Cls K C) (ha : PySem.W.findIn K (.ref C) "__class__" = some (some (.builtin "object.__class__")))
      (hn : PySem.W.specialIn K (.builtin "object.__class__") "__get__" = some (some (.builtin "getset_descriptor.__get__"))) (htk : PySem.W.takesIn K (.builtin "object.__class__") = some true)
      (hm : PySem.W.mroIn K C (.type "object") = some true) : TyOf K H (.ref a) (.ref C)
/-- isinstance(x, c) for one class c, a built-in or an own one: kitOne's answer -/
theorem isinst_ok {x : V} {u t : Value} (I : Inv X pins σ H s) (rx : RelV x u) (ty : TyOf X.K H x t) (e : PySem.W.kitOne X.K t c = some b) (h : ∀ tk, Q (.bool b) { s with toks := tk }) :
    wpAny (model X.prog X.w) A (call (.builtin "isinstance") [u, c]) Q E s := by
  cases ty with
  | non => cases (show u = Value.none from rx); exact PySem.W.kia_one PySem.W.kitx_none I.kIn True.intro e (fun z => nomatch z) h
  | bl y => cases (show u = Value.bool y from rx); exact PySem.W.kia_one PySem.W.kitx_bool I.kIn True.intro e (fun z => nomatch z) h
  | int i => obtain ⟨t, q⟩ := (show ∃ t, u = Value.int i t from rx); cases q; exact PySem.W.kia_one PySem.W.kitx_int I.kIn True.intro e (fun z => nomatch z) h
  | str y => obtain ⟨t, q⟩ := (show ∃ t, u = Value.str y t from rx); cases q; exact PySem.W.kia_one PySem.W.kitx_str I.kIn True.intro e (fun z => nomatch z) h
  | flt y => obtain ⟨t, q⟩ := (show ∃ t, u = Value.float y t from rx); cases q; exact PySem.W.kia_one PySem.W.kitx_float I.kIn True.intro e (fun z => nomatch z) h
  | @lst a xs ea =>
    cases (show u = Value.ref a from rx)
    obtain ⟨_, _, n, _, h1⟩ := (show ObjOk X.prog X.w H s.heap a (.lst xs) from I.hok a _ ea)
    exact PySem.W.kia_one PySem.W.kitx_list I.kIn ⟨_, h1, rfl⟩ e (fun z => nomatch z) h
  | @frz a ob xs ea =>
    cases (show u = Value.ref a from rx)
    obtain ⟨_, _, _, n, _, h1⟩ := (show ObjOk X.prog X.w H s.heap a (.frz ob (.lst xs)) from I.hok a _ ea)
    exact PySem.W.kia_one PySem.W.kitx_list I.kIn ⟨_, h1, rfl⟩ e (fun z => nomatch z) h
  | @tup a xs ea =>
    cases (show u = Value.ref a from rx)
    obtain ⟨_, _, _, p⟩ := (show ObjOk X.prog X.w H s.heap a (.tup xs) from I.hok a _ ea)
    obtain ⟨o, h1, h2, _⟩ := p
    exact PySem.W.kia_one PySem.W.kitx_tuple I.kIn ⟨o, h1, h2⟩ e (fun z => nomatch z) h
  | @dK a kvs ea =>
    cases (show u = Value.ref a from rx)
    obtain ⟨_, _, vs, _, p⟩ := (show ObjOk X.prog X.w H s.heap a (.dK kvs) from I.hok a _ ea)
    obtain ⟨o, es, ep, h1, h2, _⟩ := p
    exact PySem.W.kia_one PySem.W.kitx_dict I.kIn ⟨o, h1, h2.1⟩ e (fun z => nomatch z) h
  | @dT a kvs ea =>
    cases (show u = Value.ref a from rx)
    obtain ⟨_, _, xs, _, o, es, ep, h1, h2, _⟩ := (show ObjOk X.prog X.w H s.heap a (.dT kvs) from I.hok a _ ea)
    exact PySem.W.kia_one PySem.W.kitx_dict I.kIn ⟨o, h1, h2.1⟩ e (fun z => nomatch z) h
  | @ins a C dx fs ea cl ha hn htk hm =>
    cases (show u = Value.ref a from rx)
    obtain ⟨mA, O, _⟩ := ins_get I.hok ea
    obtain ⟨od, J, _⟩ := O.look
    exact PySem.W.kia_one (PySem.W.kitx_own (cl.get _) cl.hd ha hn htk hm) I.kIn J e (fun z => nomatch z) h
end
end L2

namespace L2
open PySem PySem.Spec PyProof.Rows

/-! ### room -/
structure Room (k : Nat) (A : Around) : Prop where
  hd : A.handled = none
  dp : A.depth + 3 * k + 5 < recursionLimit
  un : A.units + 16 * k + 200 < cLine
theorem Room.mono {j k : Nat} {A : Around} (r : Room k A) (h : j ≤ k) : Room j A := ⟨r.hd, by have := r.dp; omega, by have := r.un; omega⟩
theorem Room.deeper {k : Nat} {A : Around} (r : Room (k + 1) A) (env : Env) : Room k (A.deeper env) :=
  ⟨r.hd, by have := r.dp; show A.depth + 1 + 3 * k + 5 < _; omega, by have := r.un; show A.units + 3 + 16 * k + 200 < _; omega⟩
theorem Room.depth {k : Nat} {A : Around} (r : Room k A) : A.depth < recursionLimit := by have := r.dp; omega
theorem Room.units {k : Nat} {A : Around} (r : Room k A) : A.units + 64 < cLine := by have := r.un; omega

/-! ### argument lists and displays -/
noncomputable def tNil : TA := fun _ H Q => Q [] H
noncomputable def tCons (ta : TE) (tr : TA) : TA := fun σ H Q => ta σ H fun x H1 => tr σ H1 fun xs H2 => Q (x :: xs) H2
section
variable {X : Cx} {e : Expr} {es : List Expr} {te : TE} {t : TA} {pos : Pos}
theorem pa_nil : PA X [] tNil := fun _ _ _ _ H Q I h => Calls.spliced_nil ⟨[], H, I, .nil, h⟩
theorem pa_cons (ha : PE X e te) (hr : PA X es t) (hs : starEach (e :: es) X.env = (false, eval e X.env) :: starEach es X.env := by rfl) : PA X (e :: es) (tCons te t) := by
  intro pos pins s σ H Q I h
  rw [hs]
  show wpAny _ _ (spliced ((false, eval e X.env) :: backTo pos (starEach es X.env))) _ _ s
  refine Calls.spliced_cons (thn (ha pins s σ H _ I h) fun u s1 ⟨x, H1, I1, r1, q1⟩ => ?_)
  exact thn (hr pos pins s1 σ H1 _ I1 q1) fun us s2 ⟨xs, H2, I2, r2, q2⟩ => ⟨x :: xs, H2, I2, .cons r1 r2, q2⟩

/-- a tuple, a list of written items -/
noncomputable def tTup (t : TA) : TE := fun σ H Q => t σ H fun xs H1 => xs.length ≤ sizeLine ∧ ∀ p, H1 p = none → Q (.ref p) (upd H1 p (.tup xs))
noncomputable def tLst (t : TA) : TE := fun σ H Q => t σ H fun xs H1 => xs.length ≤ sizeLine ∧ ∀ p, H1 p = none → Q (.ref p) (upd H1 p (.lst xs))
theorem pe_tup {x1} (h : PA X es t) : PE X (.Tuple es x1 pos) (tTup t) := by
  intro pins s σ H Q I hq
  refine wpAny_Tuple_spliced (thn (h pos pins s σ H _ I hq) fun us s1 ⟨xs, H1, I1, r, z, q⟩ => ⟨by rw [← r.length]; exact z, ?_⟩)
  have hf : H1 s1.heap.objs.size = none := I1.hok.fresh (Nat.le_refl _)
  refine ⟨.ref s1.heap.objs.size, upd H1 s1.heap.objs.size (.tup xs), I1.laid (t' := s1.toks) (fun b u e => Heap.get?_push_of_some _ e) (Nat.le_refl _) ?_, rfl, q _ hf⟩
  exact ⟨z, us, r, ⟨_, Heap.get?_push_size _ rfl, rfl, _, rfl⟩⟩
theorem pe_lst (h : PA X es t) : PE X (.List es pos) (tLst t) := by
  intro pins s σ H Q I hq
  refine wpAny_List_spliced (thn (h pos pins s σ H _ I hq) fun us s1 ⟨xs, H1, I1, r, z, q⟩ => ⟨by rw [← r.length]; exact z, ?_⟩)
  have hf : H1 s1.heap.objs.size = none := I1.hok.fresh (Nat.le_refl _)
  refine ⟨.ref s1.heap.objs.size, upd H1 s1.heap.objs.size (.lst xs), I1.laid (t' := s1.toks) (fun b u e => Heap.get?_push_of_some _ e) (Nat.le_refl _) ?_, rfl, q _ hf⟩
  exact ⟨z, us, 0, r, Heap.get?_push_size _ rfl⟩
end

/-! ### what a def promises -/
/-- a def's promise: the bound arguments in the parameters' order, the heap, the wanted end, the wanted exception -/
noncomputable abbrev Sp := List V → Hp → VK → XK → Prop
/-- how an exception lies behind a call (file 08 gives it): the callers' frames, abstract heap and state ahead of the call, the wish, the exception, the state -/
noncomputable abbrev CXT := List Env → Hp → Shared → XK → Value → Shared → Prop

/-- the state at a call -/
structure Env0 (P : Program) (w : World) (K : PySem.W.Frag) (mg : Str → Option Value) (base : Heap) (A : Around) (outer : List Env) (s : Shared) (H : Hp) : Prop where
  frames : A.frames = some outer
  mod : Mod K mg base
  bs : ∀ b o, base.get? b = some o → s.heap.get? b = some o ∧ H b = none
  bsz : base.objs.size ≤ s.heap.objs.size
  funs : s.heap.FunFrames base outer
  frf : ∀ b ∈ frs outer, H b = none
  hok : HOk P w H s.heap
  bare : AllBare s.gens
/-- a call's end -/
noncomputable def CE (outer : List Env) (P : Program) (w : World) (H : Hp) (s : Shared) (Q : VK) (u : Value) (s' : Shared) : Prop :=
  ∃ v H', s'.os = s.os ∧ AllBare s'.gens ∧ Un (frs outer) [] H H' s.heap s'.heap ∧ HOk P w H' s'.heap ∧ RelV v u ∧ Q v H'
noncomputable def CR (CX : CXT) (outer : List Env) (P : Program) (w : World) (H : Hp) (s : Shared) (Q : VK) (E : XK) (r : Result) (s' : Shared) : Prop :=
  match r with
  | .ok (.ret u) => CE outer P w H s Q u s'
  | .ok _ => False
  | .error e => CX outer H s E e s'
structure FnOk (P : Program) (w : World) (K : PySem.W.Frag) (mg : Str → Option Value) (base : Heap) (CX : CXT) (k : Nat) (f : Addr) (fd : FuncData) (ps : List Str) (sp : Sp) : Prop where
  len : ∀ vs H Q E, sp vs H Q E → vs.length = ps.length
  run : ∀ (A : Around) (outer : List Env) (s : Shared) (H : Hp) (args : Args) (us : List Value) (vs : List V) (Q : VK) (E : XK), Room k A → Env0 P w K mg base A outer s H → BindsTo s fd args (ps.zip us) → Vals vs us → sp vs H Q E →
    codeAny (model P w) A (.call (.ref f) args) (CR CX outer P w H s Q E) s
theorem FnOk.mono {P : Program} {w : World} {K : PySem.W.Frag} {mg : Str → Option Value} {base : Heap} {CX : CXT} {j k : Nat} {f : Addr} {fd : FuncData} {ps : List Str} {sp : Sp} (F : FnOk P w K mg base CX j f fd ps sp) (h : j ≤ k) :
    FnOk P w K mg base CX k f fd ps sp := ⟨F.len, fun A outer s H args us vs Q E hr => F.run A outer s H args us vs Q E (hr.mono h)⟩
/-- a weaker promise -/
theorem FnOk.imp {P : Program} {w : World} {K : PySem.W.Frag} {mg : Str → Option Value} {base : Heap} {CX : CXT} {k : Nat} {f : Addr} {fd : FuncData} {ps : List Str} {sp sp' : Sp} (F : FnOk P w K mg base CX k f fd ps sp)
    (h : ∀ vs H Q E, sp' vs H Q E → sp vs H Q E) : FnOk P w K mg base CX k f fd ps sp' :=
  ⟨fun vs H Q E q => F.len vs H Q E (h _ _ _ _ q), fun A outer s H args us vs Q E hr he hb hv hs => F.run A outer s H args us vs Q E hr he hb hv (h _ _ _ _ hs)⟩


section
variable {X : Cx} {pins : List (Addr × Obj)} {σ : St} {H : Hp} {s s' : Shared}
/-- from a body: what a callee wants -/
theorem Inv.env0 (I : Inv X pins σ H s) : Env0 X.prog X.w X.K X.mg X.base X.A X.stack s H :=
  ⟨I.ok.frames, I.ok.mod, I.bs, Nat.le_trans I.ok.bsz I.sz, I.stack, I.stkFree, I.hok, I.bare⟩
/-- behind a call -/
theorem Inv.after {Q : VK} {u : Value} (I : Inv X pins σ H s) (h : CE X.stack X.prog X.w H s Q u s') : EP X pins σ Q u s' := by
  obtain ⟨v, H', os, bare, un, hok, r, q⟩ := h
  obtain ⟨hh, g, d, t, os'⟩ := s'
  obtain rfl : os' = s.os := os
  exact ⟨v, H', I.call (h' := hh) (g' := g) (d' := d) (t' := t) (ch := []) un hok bare (fun b z => absurd z (by simp)), r, q⟩
end

/-! ### calls -/
/-- f(..): the written arguments, then the defaults dvs; E: what is wanted of an exception -/
noncomputable def tCall (sp : Sp) (dvs : List V) (E : XK) (t : TA) : TE := fun σ H Q => t σ H fun vs H1 => sp (vs ++ dvs) H1 Q E

/-- how the parameters are bound: us the positional arguments, kw the keywords' values by name, ds the defaults that fill up -/
noncomputable def Binds (K : PySem.W.Frag) (fd : FuncData) (ps : List Str) (ds : List Value) : Prop :=
  ∀ (s : Shared) (us : List Value), K.In s.heap → (us ++ ds).length = ps.length → BindsTo s fd ⟨us, []⟩ (ps.zip (us ++ ds))
/-- every parameter is given -/
theorem Binds.all {K : PySem.W.Frag} {fd : FuncData} {ps : List Str} (h : ∀ us : List Value, us.length = ps.length → bindArgs fd ⟨us, []⟩ = pure (ps.zip us)) : Binds K fd ps [] := fun s us _ hl => by
  rw [List.append_nil] at hl ⊢
  exact .of_eq (h us hl)

/-- an exception of a callee reaches what this body wants of exceptions -/
noncomputable def Passes (CX : CXT) (X : Cx) (E : XK) : Prop := ∀ (pins : List (Addr × Obj)) (σ : St) (H : Hp) (s : Shared) (e : Value) (s' : Shared), Inv X pins σ H s → CX X.stack H s E e s' → X.xe e s'

section
variable {X : Cx} {CX : CXT} {k : Nat} {f C : Addr} {fd : FuncData} {ps : List Str} {sp : Sp} {dvs : List V} {ds : List Value} {E : XK} {x m : Str} {p pos apos : Pos} {e o : Expr} {es : List Expr} {ta : TE} {t : TA}

/-- the callee runs -/
theorem run_fn {pins : List (Addr × Obj)} {σ : St} {H : Hp} {s : Shared} {Q : VK} {us : List Value} {vs : List V} (F : FnOk X.prog X.w X.K X.mg X.base CX k f fd ps sp) (hr : Room k X.A) (hb : Binds X.K fd ps ds) (hd : Vals dvs ds) (hx : Passes CX X E)
    (I : Inv X pins σ H s) (r : Vals vs us) (h : sp (vs ++ dvs) H Q E) : wpAny (model X.prog X.w) X.A (call (.ref f) us) (EP X pins σ Q) X.xe s := by
  have r2 : Vals (vs ++ dvs) (us ++ ds) := r.append hd
  have hl : (us ++ ds).length = ps.length := by rw [← r2.length]; exact F.len _ _ _ _ h
  refine wpAny_call (codeAny_mono (F.run X.A X.stack s H ⟨us, []⟩ (us ++ ds) (vs ++ dvs) Q E hr I.env0 (hb s us I.kIn hl) r2 h) fun r s' hq => ?_)
  cases r with
  | error e => exact hx pins σ H s e s' I hq
  | ok fl =>
    cases fl with
    | ret u => exact I.after hq
    | next => exact False.elim hq
    | brk => exact False.elim hq
    | cont => exact False.elim hq

theorem pe_call (F : FnOk X.prog X.w X.K X.mg X.base CX k f fd ps sp) (hr : Room k X.A) (hg : Gl X x) (hm : X.mg x = some (.ref f)) (hk : PySem.W.keepIn X.K (.ref f) = true) (hb : Binds X.K fd ps ds) (hd : Vals dvs ds) (hx : Passes CX X E)
    (ha : PA X (e :: es) t) (hdb : (x == ("__debug__" : Str)) = false := by decide) (he : starEach (e :: es) X.env = (false, eval e X.env) :: starEach es X.env := by rfl) (hpl : (backTo pos (starEach es X.env)).any (·.1) = false := by rfl) :
    PE X (.Call (.Name x p) (e :: es) [] pos) (tCall sp dvs E t) := by
  intro pins s σ H Q I h
  refine wpAny_Call_Name_kw (ld_glob I hg hm ?_ hdb)
  refine PySem.W.callWith_K (h₀ := X.base) I.ok.mod.kin hk (thn (ha pos pins s σ H _ I h) fun us s1 ⟨vs, H1, I1, r, q⟩ => ⟨I1.kIn, ?_⟩) he hpl
  exact run_fn F hr hb hd hx I1 r q



end

/-! ### keywords -/
section
variable {X : Cx} {CX : CXT} {k : Nat} {f C : Addr} {fd : FuncData} {ps ks : List Str} {sp : Sp} {E : XK} {x m : Str} {p pos apos kpos : Pos} {e o : Expr} {es : List Expr} {kws : List Keyword} {te ta : TE} {t tk : TA} {nm : Option Str}

variable {g : List Value → List Value → List Value} {gV : List V → List V → List V}
end

/-! ### a def's body keeps its promise -/
/-- names: the parameters first -/
structure FnScope (N P : List Str) (sc : Scope) : Prop where
  kind : sc.kind = .function
  co : sc.isCoroutine = false
  gen : sc.isGenerator = false
  nd : N.Nodup
  pre : N.take P.length = P
  par : ∀ x ∈ P, sc.names.lookup x = some .local ∨ sc.names.lookup x = some .cell
  nofree : ∀ y ∈ sc.names, y.2 ≠ .free

theorem bindL_out {kindOf : Str → Option NameKind} {x : Str} : ∀ {binds : List (Str × Value)} {m : Str → Option Value}, (∀ v, (x, v) ∉ binds) → bindL kindOf binds m x = m x
  | [], _, _ => rfl
  | (n, v) :: r, m, h => by
    unfold bindL
    rw [bindL_out fun w hw => h w (List.mem_cons_of_mem _ hw)]
    split
    · have : x ≠ n := by rintro rfl; exact h v List.mem_cons_self
      simp [this]
    · rfl
theorem bindC_out {kindOf : Str → Option NameKind} {x : Str} : ∀ {binds : List (Str × Value)} {m : Str → Option Value}, (∀ v, (x, v) ∉ binds) → bindC kindOf binds m x = m x
  | [], _, _ => rfl
  | (n, v) :: r, m, h => by
    unfold bindC
    rw [bindC_out fun w hw => h w (List.mem_cons_of_mem _ hw)]
    split
    · rfl
    · have : x ≠ n := by rintro rfl; exact h v List.mem_cons_self
      simp [this]
theorem bindL_get {kindOf : Str → Option NameKind} {x : Str} {v : Value} : ∀ {P : List Str} {vs : List Value} {i : Nat} {m : Str → Option Value}, P.Nodup → P[i]? = some x → vs[i]? = some v → kindOf x = some .local →
    bindL kindOf (P.zip vs) m x = some v
  | [], _, _, _, _, h, _, _ => by simp at h
  | _ :: _, [], _, _, _, _, h, _ => by simp at h
  | p :: P, w :: vs, 0, m, nd, h1, h2, hk => by
    simp at h1 h2; subst h1; subst h2
    show bindL kindOf ((p, w) :: P.zip vs) m p = _
    unfold bindL
    rw [bindL_out fun v hv => (List.nodup_cons.mp nd).1 (List.of_mem_zip hv).1, if_pos hk]
    simp
  | p :: P, w :: vs, i + 1, m, nd, h1, h2, hk => by
    show bindL kindOf ((p, w) :: P.zip vs) m x = _
    unfold bindL
    exact bindL_get (i := i) (List.nodup_cons.mp nd).2 (by simpa using h1) (by simpa using h2) hk
theorem bindC_get {kindOf : Str → Option NameKind} {x : Str} {v : Value} : ∀ {P : List Str} {vs : List Value} {i : Nat} {m : Str → Option Value}, P.Nodup → P[i]? = some x → vs[i]? = some v → kindOf x ≠ some .local →
    bindC kindOf (P.zip vs) m x = some v
  | [], _, _, _, _, h, _, _ => by simp at h
  | _ :: _, [], _, _, _, _, h, _ => by simp at h
  | p :: P, w :: vs, 0, m, nd, h1, h2, hk => by
    simp at h1 h2; subst h1; subst h2
    show bindC kindOf ((p, w) :: P.zip vs) m p = _
    unfold bindC
    rw [bindC_out fun v hv => (List.nodup_cons.mp nd).1 (List.of_mem_zip hv).1, if_neg hk]
    simp
  | p :: P, w :: vs, i + 1, m, nd, h1, h2, hk => by
    show bindC kindOf ((p, w) :: P.zip vs) m x = _
    unfold bindC
    exact bindC_get (i := i) (List.nodup_cons.mp nd).2 (by simpa using h1) (by simpa using h2) hk

/-- the names' values at the entry -/
noncomputable def start (N : List Str) (vs : List V) : St := vs.map some ++ List.replicate (N.length - vs.length) none

/-- the context of a def's body, at its entry; an exception leaves the frame, then lies as CX says -/
noncomputable def cxOf (CX : CXT) (P : Program) (w : World) (K : PySem.W.Frag) (mg : Str → Option Value) (base : Heap) (N : List Str) (qual : Str) (scope : Scope) (f : Addr) (cd : Value) (A : Around) (outer : List Env) (s : Shared) (H : Hp) (E : XK) : Cx where
  prog := P
  w := w
  K := K
  mg := mg
  base := base
  A := A.deeper (envOfC qual scope s.heap.objs.size f cd)
  N := N
  s₀ := s
  H₀ := H
  env := envOfC qual scope s.heap.objs.size f cd
  outer := outer
  stack := envOfC qual scope s.heap.objs.size f cd :: outer
  ex := []
  calm := true
  fn := fun _ => true
  pn := []
  xe := fun e s' => wpAny (model P w) (A.deeper (envOfC qual scope s.heap.objs.size f cd)) (leaving (envOfC qual scope s.heap.objs.size f cd) e) (fun _ s'' => CX outer H s E e s'') (fun e' s'' => CX outer H s E e' s'') s'

theorem cell_has {sc : Scope} {n : Nat} {x : Str} (h : sc.names.lookup x = some .cell) : ∃ c, (cellsFrom n sc.names []).lookup x = some c := by
  have q := PySem.W.cellsFrom_some sc.names n [] (.inl h)
  exact Option.isSome_iff_exists.mp q

theorem inv_start {CX : CXT} {P : Program} {w : World} {K : PySem.W.Frag} {mg : Str → Option Value} {base : Heap} {N ps : List Str} {qual : Str} {scope : Scope} {f : Addr} {cd : Value} {A : Around} {outer : List Env} {s s1 : Shared} {H : Hp} {E : XK} {us : List Value} {vs : List V}
    (S : FnScope N ps scope) (hd : A.handled = none) (e0 : Env0 P w K mg base A outer s H) (hl : vs.length = ps.length) (r : Vals vs us)
    (x : InCallC s s.heap.objs.size (bindL (envOfC qual scope s.heap.objs.size f cd).kindOf (ps.zip us) fun _ => none) (cellsFrom (s.heap.objs.size + 1) scope.names []) (bindC (envOfC qual scope s.heap.objs.size f cd).kindOf (ps.zip us) fun _ => none) s1) :
    Inv (cxOf CX P w K mg base N qual scope f cd A outer s H E) [] (start N vs) H s1 := by
  have hpl : ps.length ≤ N.length := by have := congrArg List.length S.pre; rw [List.length_take] at this; omega
  obtain ⟨h1, tk, rfl, hk⟩ := x.done
  have noA : ∀ b : Addr, b ∉ (cxOf CX P w K mg base N qual scope f cd A outer s H E).ex := fun b z => absurd (show b ∈ ([] : List Addr) from z) (by simp)
  refine ⟨⟨e0.mod, S.kind, rfl, rfl, Nat.le_refl _, fun y z c h1 h2 => ?_, fun y hy => ?_, fun y c _ h => ?_, fun _ => hd, Around.frames_deeper e0.frames, .inr ⟨rfl, rfl⟩, fun b z => absurd z (noA b), e0.bs, e0.bsz, fun b _ _ => noA b, fun b z => absurd z (noA b), e0.funs, e0.frf⟩,
    rfl, e0.bare, Un.kept hk, ⟨_, x.toInCall.ns, fun i y v h1 h2 h3 => ?_⟩, fun y c h => ⟨_, x.cell y c h⟩, e0.hok.fresh (Nat.le_refl _), fun y c h => ?_, fun p hp => absurd (show p ∈ ([] : List (Addr × Obj)) from hp) (by simp), e0.hok.kept hk, ?_⟩
  · exact name_of_addr x.apart (PySem.mem_of_lookup h1) (PySem.mem_of_lookup h2)
  · have hy : scope.names.lookup y = some .cell ∨ scope.names.lookup y = some .free := hy
    rcases hy with hy | hy
    · exact cell_has hy
    · exact absurd rfl (S.nofree _ (PySem.mem_of_lookup hy))
  · exact Nat.le_of_lt (x.above y c (PySem.mem_of_lookup h))
  · have hi : i < vs.length := by
      unfold start at h2
      by_cases hi : i < vs.length
      · exact hi
      · rw [List.getElem?_append_right (by simpa using hi)] at h2
        rw [List.getElem?_replicate] at h2
        split at h2 <;> cases h2
    have ha : vs[i]? = some v := by
      unfold start at h2
      rw [List.getElem?_append_left (by simpa using hi), List.getElem?_map] at h2
      cases e : vs[i]? with
      | none => rw [e] at h2; cases h2
      | some a => rw [e] at h2; cases h2; rfl
    obtain ⟨u, hu, rv⟩ := r.get ha
    have hp : ps[i]? = some y := by
      rw [← S.pre, List.getElem?_take_of_lt (by omega)]; exact h1
    have ndP : ps.Nodup := by rw [← S.pre]; exact S.nd.sublist (List.take_sublist _ _)
    refine ⟨u, rv, ?_⟩
    rcases S.par y (List.mem_of_getElem? hp) with k | k
    · exact .inl ⟨k, bindL_get ndP hp hu k⟩
    · obtain ⟨c, e⟩ := cell_has (n := s.heap.objs.size + 1) k
      refine .inr ⟨.inl k, c, e, ?_⟩
      have q := x.cell y c e
      rw [bindC_get ndP hp hu (by show scope.names.lookup y ≠ _; rw [k]; decide)] at q
      exact q
  · exact e0.hok.fresh (Nat.le_of_lt (x.above y c (PySem.mem_of_lookup h)))
  · unfold start
    show _ = N.length
    rw [List.length_append, List.length_map, List.length_replicate]
    omega

/-- THE RULE: a def (or a method) of the text, by its body. The body's reading t is chosen for each entry; it is run at the parameters' values -/
theorem fn_of {CX : CXT} {P : Program} {w : World} {K : PySem.W.Frag} {mg : Str → Option Value} {base : Heap} {k : Nat} {f : Addr} {name qual : Str} {params : Arguments} {body : List Stmt} {scope : Scope} {dV kV doc pm cdv ct oc : Value} {an od : Option Addr}
    {osl : Array (Option Value)} {N ps : List Str} {sp : Sp} (lk : K.lookup f = some ⟨oc, od, .func (PySem.W.fnOf name qual params body scope dV kV doc pm an cdv ct), osl⟩) (hcd : PySem.W.codeIn K cdv qual = true) (S : FnScope N ps scope)
    (len : ∀ vs H Q E, sp vs H Q E → vs.length = ps.length)
    (hbody : ∀ (A : Around) (outer : List Env) (s : Shared) (H : Hp) (vs : List V) (Q : VK) (E : XK), Room k (A.deeper (envOfC qual scope s.heap.objs.size f cdv)) → sp vs H Q E →
      ∃ t, PSs (cxOf CX P w K mg base N qual scope f cdv A outer s H E) body t ∧ t { nx := fun _ H' => Q .non H', rt := Q } (start N vs) H) :
    FnOk P w K mg base CX (k + 1) f (PySem.W.fnOf name qual params body scope dV kV doc pm an cdv ct) ps sp := by
  refine ⟨len, fun A outer s H args us vs Q E hr e0 hb r hsp => ?_⟩
  have hl := len _ _ _ _ hsp
  have KX : K.In s.heap := e0.mod.kin.keeps fun b o e => (e0.bs b o e).1
  have lim : s.heap.NoLimit := e0.mod.nolimit.keeps fun b o e => (e0.bs b o e).1
  have hkind : ∀ y ∈ ps.zip us, scope.names.lookup y.1 = some .local ∨ (scope.names.lookup y.1 = some .cell ∧ ((cellsFrom (s.heap.objs.size + 1) scope.names []).lookup y.1).isSome = true) := fun ⟨n, v⟩ hy => by
    rcases S.par n (List.of_mem_zip hy).1 with q | q
    · exact .inl q
    · exact .inr ⟨q, PySem.W.cellsFrom_some _ _ _ (.inl q)⟩
  refine codeAny_call_function hr.depth (KX _ _ lk) rfl S.co S.gen rfl (PySem.W.codeRec_of KX hcd) (hb _ _ _ _ ?_)
  refine wpAny_newFunctionEnv_cells S.kind hkind fun env he s1 x => ?_
  subst he
  refine ⟨lim.keeps x.toInCall.keep, codeAny_func ?_⟩
  obtain ⟨t, ht, hq⟩ := hbody A outer s H vs Q E (hr.deeper _) hsp
  have I : Inv (cxOf CX P w K mg base N qual scope f cdv A outer s H E) [] (start N vs) H s1 := inv_start S hr.hd e0 hl r x
  refine wpAny_mono (ht [] s1 (start N vs) H _ I hq) (fun fl s' hs => ?_) fun e s' hs => hs
  have fin : ∀ {σ' : St} {H' : Hp} {v : V} {u : Value}, Inv (cxOf CX P w K mg base N qual scope f cdv A outer s H E) [] σ' H' s' → RelV v u → Q v H' → CE outer P w H s Q u s' :=
    fun {σ' H' v u} J rv q => ⟨v, H', J.os, J.bare, J.base, J.hok, rv, q⟩
  cases fl with
  | ret u =>
    obtain ⟨v, σ', H', J, rv, q⟩ := hs
    exact fin J rv q
  | next =>
    obtain ⟨σ', H', J, q⟩ := hs
    exact fin (v := V.non) (u := Value.none) J rfl q
  | brk =>
    obtain ⟨_, _, _, q⟩ := hs
    exact False.elim q
  | cont =>
    obtain ⟨_, _, _, q⟩ := hs
    exact False.elim q
end L2

namespace L2
open PySem PySem.Spec PyProof.Rows
section
variable {X : Cx} {x : Str} {p pos : Pos} {e : Expr} {es : List Expr} {t : TA} {id T : String} {r : List V → Hp → VK → Prop}

noncomputable def tCB (r : List V → Hp → VK → Prop) (t : TA) : TE := fun σ H Q => t σ H fun vs H1 => r vs H1 Q
/-- f(e, ..), f a built-in function -/
theorem pe_callB (hc : CallR X (.builtin id) r) (hg : Gl X x) (hm : X.mg x = none) (hv : bootBuiltins x = some (.builtin id)) (ha : PA X (e :: es) t) (hn : x ≠ "__name__" := by decide) (hdb : (x == ("__debug__" : Str)) = false := by decide)
    (he : starEach (e :: es) X.env = (false, eval e X.env) :: starEach es X.env := by rfl) (hpl : (backTo pos (starEach es X.env)).any (·.1) = false := by rfl) : PE X (.Call (.Name x p) (e :: es) [] pos) (tCB r t) := by
  intro pins s σ H Q I h
  refine wpAny_Call_Name_kw (ld_blt I hg hm hv ?_ hn hdb)
  exact PyProof.Rows.callWith_builtin1 (thn (ha pos pins s σ H _ I h) fun us s1 ⟨vs, H1, I1, r1, q1⟩ => hc pins s1 σ H1 vs us Q I1 r1 q1) he hpl
/-- T(e, ..), T a built-in type -/
theorem pe_callTy (hc : CallR X (.type T) r) (hg : Gl X x) (hm : X.mg x = none) (hv : bootBuiltins x = some (.type T)) (ha : PA X (e :: es) t) (hn : x ≠ "__name__" := by decide) (hdb : (x == ("__debug__" : Str)) = false := by decide)
    (he : starEach (e :: es) X.env = (false, eval e X.env) :: starEach es X.env := by rfl) (hpl : (backTo pos (starEach es X.env)).any (·.1) = false := by rfl) : PE X (.Call (.Name x p) (e :: es) [] pos) (tCB r t) := by
  intro pins s σ H Q I h
  refine wpAny_Call_Name_kw (ld_blt I hg hm hv ?_ hn hdb)
  exact PyProof.Rows.callWith_type1 (thn (ha pos pins s σ H _ I h) fun us s1 ⟨vs, H1, I1, r1, q1⟩ => hc pins s1 σ H1 vs us Q I1 r1 q1) he hpl
end
end L2

namespace HT
open PySem PyProof.Rows



section
open PySem.SeqAt
open PySem.AutoSeq1 (wpAny_loadPart')
open PySem.MeetsSeq PySem.MeetsSeq2 PySem.MeetsSeq3

end

section
variable {prog : Program} {w : World} {A : Around} {E : Value → Shared → Prop} {s : Shared}



/-! ### t[a:b], not the whole -/
/-- a slice's bound as a place among n (d where it is left out) -/
noncomputable def sIx (n d : Nat) : Option Int → Nat
  | none => d
  | some v => if v < 0 then (v + (n : Int)).toNat else min v.toNat n
theorem sIx_nat (n d k : Nat) : sIx n d (some (k : Int)) = min k n := by
  show (if (k : Int) < 0 then ((k : Int) + (n : Int)).toNat else min (k : Int).toNat n) = min k n
  rw [if_neg (by omega), Int.toNat_natCast]
theorem sIx_le (n d : Nat) (hd : d ≤ n) (o : Option Int) : sIx n d o ≤ n := by
  cases o with
  | none => exact hd
  | some v =>
    show (if v < 0 then (v + (n : Int)).toNat else min v.toNat n) ≤ n
    by_cases hv : v < 0
    · rw [if_pos hv]; omega
    · rw [if_neg hv]; exact Nat.min_le_right _ _
theorem clip_eq (v : Int) (n d : Nat) : (if v < 0 then max (v + (n : Int)) 0 else min v (n : Int)) = ((sIx n d (some v) : Nat) : Int) := by
  show (if v < 0 then max (v + (n : Int)) 0 else min v (n : Int)) = (((if v < 0 then (v + (n : Int)).toNat else min v.toNat n) : Nat) : Int)
  by_cases hv : v < 0
  · simp only [if_pos hv]; omega
  · simp only [if_neg hv]; omega
theorem adjust_gen (lo hi : Option Int) (n : Nat) : Builtin.Slice.sliceAdjust lo hi 1 (n : Int) = (((sIx n 0 lo : Nat) : Int), ((sIx n n hi : Nat) : Int)) := by
  have h1 : ¬ ((1 : Int) < 0) := by omega
  unfold Builtin.Slice.sliceAdjust
  simp only [h1, if_false]
  refine Prod.ext ?_ ?_
  · cases lo with
    | none => rfl
    | some v => exact clip_eq v n 0
  · cases hi with
    | none => rfl
    | some v => exact clip_eq v n n
theorem places_gen (i j : Nat) : Builtin.Slice.slicePlaces (i : Int) (j : Int) 1 = j - i := by
  unfold Builtin.Slice.slicePlaces
  have h1 : (1 : Int) > 0 := by omega
  simp only [h1, if_true, Int.ediv_one]
  split <;> omega
theorem slicePart_ {v : Value} {o : Option Int} {Q : Option Int → Shared → Prop} (p : IsPart v o) (h : Q o s) : wpAny (model prog w) A (Builtin.Slice.slicePartIndex v) Q E s := by
  cases p with
  | none => exact slicePart_none h
  | int i t => exact slicePart_int h
theorem sliceApplied_gen {sl : Addr} {vl vu : Value} {lo hi : Option Int} {n : Nat} {Q : Int × Int × Nat → Shared → Prop} (hs : s.heap.IsSliceOf sl vl vu .none) (pl : IsPart vl lo) (pu : IsPart vu hi)
    (h : Q (((sIx n 0 lo : Nat) : Int), 1, sIx n n hi - sIx n 0 lo) s) : wpAny (model prog w) A (Builtin.Slice.sliceApplied (.ref sl) (pure (n : Int))) Q E s := by
  obtain ⟨os, hos, hcs, hds⟩ := id hs
  unfold Builtin.Slice.sliceApplied Builtin.Slice.sliceFields
  refine wpAny_bind (wpAny_bind (wpAny_field hos hds (x := vl) rfl (wpAny_bind (wpAny_field hos hds (x := vu) rfl (wpAny_bind (wpAny_field hos hds (x := .none) rfl (wpAny_pure ?_)))))))
  refine wpAny_bind (slicePart_none ?_)
  show wpAny _ _ (if ((1 : Int) == 0) = true then _ else _) _ _ s
  rw [if_neg (by decide)]
  refine wpAny_bind (slicePart_ pl (wpAny_bind (slicePart_ pu (wpAny_bind (wpAny_pure ?_)))))
  show wpAny _ _ (match Builtin.Slice.sliceAdjust lo hi 1 (n : Int) with | (lo, hi) => pure (lo, (1 : Int), Builtin.Slice.slicePlaces lo hi 1)) _ _ s
  rw [adjust_gen lo hi n]
  show wpAny _ _ (pure (((sIx n 0 lo : Nat) : Int), (1 : Int), Builtin.Slice.slicePlaces ((sIx n 0 lo : Nat) : Int) ((sIx n n hi : Nat) : Int) 1)) _ _ s
  rw [places_gen]
  exact wpAny_pure h
theorem pick_gen (xs : Array Value) (i k : Nat) : ((List.range k).filterMap fun (m : Nat) => xs[((i : Int) + (m : Int) * 1).toNat]?).toArray = ((xs.toList.drop i).take k).toArray := by
  have e : (fun (m : Nat) => xs[((i : Int) + (m : Int) * 1).toNat]?) = fun m => xs[i + m]? := by
    funext m
    have : ((i : Int) + (m : Int) * 1).toNat = i + m := by omega
    rw [this]
  rw [e]
  have := pick_run xs i k
  rw [List.filterMap_map] at this
  have e2 : ((fun x => xs[x]?) ∘ fun x => i + x) = fun m => xs[i + m]? := rfl
  rw [e2] at this
  rw [this]

theorem getItem_tuple_cut {t sl : Addr} {items : Array Value} {vl vu : Value} {lo hi : Option Int} {Q : Value → Shared → Prop} (ht : IsTup s.heap t items) (hs : s.heap.IsSliceOf sl vl vu .none) (pl : IsPart vl lo) (pu : IsPart vu hi)
    (hw : ¬ (sIx items.size 0 lo = 0 ∧ sIx items.size items.size hi = items.size))
    (h : Q (.ref s.heap.objs.size) { s with heap := s.heap.push { cls := .type "tuple", data := .seq ((items.toList.drop (sIx items.size 0 lo)).take (sIx items.size items.size hi - sIx items.size 0 lo)).toArray } })
    (hsz : items.size ≤ sizeLine) : wpAny (model prog w) A (getItem (.ref t) (.ref sl)) Q E s := by
  have htake : sizeOk (.seq ((items.toList.drop (sIx items.size 0 lo)).take (sIx items.size items.size hi - sIx items.size 0 lo)).toArray) := by
    show ((items.toList.drop (sIx items.size 0 lo)).take (sIx items.size items.size hi - sIx items.size 0 lo)).toArray.size ≤ sizeLine
    rw [List.size_toArray, List.length_take, List.length_drop, Array.length_toList]
    omega
  have hj : sIx items.size items.size hi ≤ items.size := sIx_le _ _ (Nat.le_refl _) hi
  obtain ⟨os, hos, hcs, hds⟩ := id hs
  have hTs : s.TypeIs (.ref sl) "slice" := ⟨os, hos, hcs⟩
  unfold getItem
  try with_reducible refine wpAny_holding ?_
  first | refine wpAny_bind (wpAny_pure ?_) | skip
  refine wpAny_bind (wpAny_sequenceKey ht.typeIs (by decide) ?_)
  refine wpAny_bind (wpAny_callSpecial?_slot (name := Str.ofString "__getitem__") ht.typeIs PyProof.Rows.slot_tuple_getitem
    (wpAny_call_entry PyProof.Rows.slot_tuple_getitem ht.typeIs entry_tuple_getitem ?_ (args_tuple_getitem _ _)))
  show wpAny _ _ (Builtin.Tuple.tupleItemsOf (.ref t) >>= _) _ _ s
  refine wpAny_bind (tupleItemsOf_ ht ?_)
  refine wpAny_bind (wpAny_typeOf hTs ?_)
  rw [if_pos (by decide)]
  refine wpAny_bind (sliceApplied_gen hs pl pu ?_)
  have hno : ¬ ((((sIx items.size 0 lo : Nat) : Int) == 0 && (1 : Int) == 1 && (sIx items.size items.size hi - sIx items.size 0 lo) == items.size) = true) := by
    intro q
    rw [Bool.and_eq_true, Bool.and_eq_true] at q
    have q1 : ((sIx items.size 0 lo : Nat) : Int) = 0 := eq_of_beq q.1.1
    have q2 : sIx items.size items.size hi - sIx items.size 0 lo = items.size := eq_of_beq q.2
    exact hw ⟨by omega, by omega⟩
  show wpAny _ _ (if (((sIx items.size 0 lo : Nat) : Int) == 0 && (1 : Int) == 1 && (sIx items.size items.size hi - sIx items.size 0 lo) == items.size) = true then _ else _) _ _ s
  rw [if_neg hno, pick_gen]
  first
    | exact wpAny_bind (m := Builtin.Tuple.tupleExact _) (wpAny_newObj_type (wpAny_pure ⟨_, rfl, wpAny_pure h⟩) htake)
    | exact wpAny_bind (m := Builtin.Tuple.tupleExact _) (wpAny_newObj_type (wpAny_bind (wpAny_pure (wpAny_pure ⟨_, rfl, wpAny_pure h⟩))) htake)
    | exact wpAny_bind (wpAny_bind (m := Builtin.Tuple.tupleExact _) (wpAny_newObj_type (wpAny_pure (wpAny_pure ⟨_, rfl, wpAny_pure h⟩)) htake))
    | exact wpAny_bind (wpAny_bind (m := Builtin.Tuple.tupleExact _) (wpAny_newObj_type (wpAny_pure ⟨_, rfl, wpAny_pure h⟩) htake))
end
end HT

namespace L2
open PySem PySem.Spec PyProof.Rows

/-! ### the parts of a slice -/
noncomputable abbrev TO := St → Hp → (Option Int → Hp → Prop) → Prop
/-- a slice's part (left out, or an int) -/
noncomputable def PO (X : Cx) (e : Option Expr) (t : TO) : Prop :=
  ∀ (pins : List (Addr × Obj)) (s : Shared) (σ : St) (H : Hp) (Q : Option Int → Hp → Prop), Inv X pins σ H s → t σ H Q →
    wpAny (model X.prog X.w) X.A (evalPart e X.env) (fun u s' => ∃ o H', Inv X pins σ H' s' ∧ IsPart u o ∧ Q o H') X.xe s
noncomputable def tNoPart : TO := fun _ H Q => Q none H
noncomputable def tPart (t : TE) : TO := fun σ H Q => t σ H fun x H1 => ∃ i, x = .int i ∧ Q (some i) H1

theorem intsAre_of {ns : List Int} : ∀ {us : List Value}, Vals (ns.map V.int) us → IntsAre us ns := by
  induction ns with
  | nil => intro us r; rw [List.map_nil] at r; cases r; exact .nil
  | cons n ns ih =>
    intro us r
    rw [List.map_cons] at r
    cases r with
    | cons r1 r2 =>
      obtain ⟨t, e⟩ := r1
      subst e
      exact .cons n t (ih r2)

section
variable {X : Cx} {e : Expr} {te : TE} {lo hi : Option Expr} {tl th : TO} {pos p2 : Pos}

theorem po_none : PO X none tNoPart := by
  intro pins s σ H Q I h
  rw [evalPart_none]
  exact wpAny_pure ⟨none, H, I, .none, h⟩
theorem po_some (h : PE X e te) : PO X (some e) (tPart te) := by
  intro pins s σ H Q I hw
  rw [evalPart_some]
  refine thn (h pins s σ H _ I hw) fun u s1 ⟨x, H1, I1, r1, q1⟩ => ?_
  obtain ⟨i, rfl, q⟩ := q1
  obtain ⟨t, rfl⟩ := r1
  exact ⟨some i, H1, I1, .int i t, q⟩

/-- what a slice of a value is, by values: the slice object stands at sl -/
noncomputable def SlR (X : Cx) (r : V → Option Int → Option Int → Hp → VK → Prop) : Prop :=
  ∀ (pins : List (Addr × Obj)) (s : Shared) (σ : St) (H : Hp) (x : V) (v vl vu : Value) (lo hi : Option Int) (sl : Addr) (Q : VK), Inv X pins σ H s → RelV x v → s.heap.IsSliceOf sl vl vu .none → IsPart vl lo → IsPart vu hi → r x lo hi H Q →
    ∃ T id, typeLookup (.type T) "__getitem__" = pure (some (.builtin id)) ∧ s.TypeIs v T ∧ wpAny (model X.prog X.w) X.A (getItem v (.ref sl)) (EP X pins σ Q) X.xe s
noncomputable def tSl (r : V → Option Int → Option Int → Hp → VK → Prop) (te : TE) (tl th : TO) : TE := fun σ H Q => te σ H fun x H1 => tl σ H1 fun l H2 => th σ H2 fun u H3 => r x l u H3 Q
/-- a[lo:hi], any a -/
theorem pe_slice {r : V → Option Int → Option Int → Hp → VK → Prop} (hr : SlR X r) (he : PE X e te) (hl : PO X lo tl) (hu : PO X hi th) : PE X (.Subscript e (.Slice lo hi none p2) pos) (tSl r te tl th) := by
  intro pins s σ H Q I h
  refine Subscript_ (thn (he pins s σ H _ I h) fun v s1 ⟨x, H1, I1, r1, q1⟩ => ?_)
  refine wpAny_Slice (thn (hl pins s1 σ H1 _ I1 q1) fun vl s2 ⟨l, H2, I2, pl, q2⟩ => thn (hu pins s2 σ H2 _ I2 q2) fun vu s3 ⟨u, H3, I3, pu, q3⟩ => ?_)
  rw [evalPart_none]
  refine wpAny_pure ?_
  have I4 : Inv X pins σ H3 { s3 with heap := s3.heap.push { cls := .type "slice", data := .fields #[vl, vu, .none] } } := I3.kept (t' := s3.toks) fun b ob q => Heap.get?_push_of_some _ q
  obtain ⟨T, id, hT, ht, hg⟩ := hr pins { s3 with heap := s3.heap.push { cls := .type "slice", data := .fields #[vl, vu, .none] } } σ H3 x v vl vu l u s3.heap.objs.size Q I4 r1 (Heap.IsSliceOf.new ..) pl pu q3
  show wpAny (model X.prog X.w) X.A (subscriptTail e (.Slice lo hi none p2) v (.ref s3.heap.objs.size)) (EP X pins σ Q) X.xe { s3 with heap := s3.heap.push { cls := .type "slice", data := .fields #[vl, vu, .none] } }
  exact tail_any (ops := [.ref s3.heap.objs.size, v]) ht hT hg (by with_unfolding_all rfl)

/-- the items of xs[lo:hi] -/
noncomputable def cutV (xs : List V) (lo hi : Option Int) : List V := (xs.drop (HT.sIx xs.length 0 lo)).take (HT.sIx xs.length xs.length hi - HT.sIx xs.length 0 lo)
theorem cutV_length (xs : List V) (lo hi : Option Int) : (cutV xs lo hi).length ≤ xs.length := by
  unfold cutV
  rw [List.length_take, List.length_drop]
  omega
/-- t[lo:hi], not the whole of it (the whole would be t itself) -/
noncomputable def rSlT (K : PySem.W.Frag) : V → Option Int → Option Int → Hp → VK → Prop := fun x lo hi H Q => ∃ a xs, x = .ref a ∧ SqT K H a xs ∧
  ¬ (HT.sIx xs.length 0 lo = 0 ∧ HT.sIx xs.length xs.length hi = xs.length) ∧ ∀ p, H p = none → Q (.ref p) (upd H p (.tup (cutV xs lo hi)))
theorem sl_tup : SlR X (rSlT X.K) := by
  intro pins s σ H x v vl vu lo hi sl Q I rx hs pl pu h
  obtain ⟨a, xs, rfl, hx, hw, q⟩ := h
  cases rx
  obtain ⟨its, r, ht, hz⟩ := I.tuple hx
  have hlen : its.toArray.size = xs.length := by rw [List.size_toArray]; exact r.length.symm
  refine ⟨"tuple", _, PyProof.Rows.slot_tuple_getitem.lookup, ht.typeIs, ?_⟩
  refine HT.getItem_tuple_cut ht hs pl pu (by rw [hlen]; exact hw) ?_ (by rw [hlen]; exact hz)
  rw [hlen]
  refine ⟨.ref s.heap.objs.size, _, I.laid (t' := s.toks) (o := .tup (cutV xs lo hi)) (fun b ob q => Heap.get?_push_of_some _ q) (Nat.le_refl _) ?_, rfl, q _ (I.hok.fresh (Nat.le_refl _))⟩
  exact ⟨Nat.le_trans (cutV_length xs lo hi) hz, _, (r.drop (HT.sIx xs.length 0 lo)).take (HT.sIx xs.length xs.length hi - HT.sIx xs.length 0 lo), IsTup.new _ _⟩

/-! ### t < u, t + u -/
end
end L2

namespace L2
open PySem PySem.Spec PyProof.Rows

/-! ### places -/
/-- the place that an index of any sign means -/
noncomputable def ixN (n : Nat) (i : Int) : Option Nat := if 0 ≤ i then (if i < n then some i.toNat else none) else if -(n : Int) ≤ i then some (i + n).toNat else none
noncomputable def atI {α : Type} (xs : List α) (i : Int) : Option α := (ixN xs.length i).bind fun j => xs[j]?
theorem ixN_seq {n : Nat} {i : Int} {j : Nat} (h : ixN n i = some j) : seqIndex? i n = some j ∧ j < n ∧ -(n : Int) ≤ i ∧ i < n := by
  unfold ixN at h
  by_cases h0 : 0 ≤ i
  · rw [if_pos h0] at h
    by_cases h1 : i < n
    · rw [if_pos h1] at h
      have e : i.toNat = j := Option.some.inj h
      exact ⟨by rw [seqIndex_of h0 h1, e], by omega, by omega, h1⟩
    · rw [if_neg h1] at h; cases h
  · rw [if_neg h0] at h
    by_cases h1 : -(n : Int) ≤ i
    · rw [if_pos h1] at h
      have e : (i + n).toNat = j := Option.some.inj h
      exact ⟨by rw [seqIndex_neg (by omega) h1, e], by omega, h1, by omega⟩
    · rw [if_neg h1] at h; cases h
theorem atI_get {α : Type} {xs : List α} {i : Int} {v : α} (h : atI xs i = some v) : ∃ j, seqIndex? i xs.length = some j ∧ xs[j]? = some v ∧ j < xs.length ∧ -(xs.length : Int) ≤ i ∧ i < xs.length := by
  unfold atI at h
  cases e : ixN xs.length i with
  | none => rw [e] at h; cases h
  | some j =>
    rw [e] at h
    obtain ⟨h1, h2, h3, h4⟩ := ixN_seq e
    exact ⟨j, h1, h, h2, h3, h4⟩
theorem atI_nat {α : Type} {xs : List α} {j : Nat} {v : α} (h : xs[j]? = some v) : atI xs (j : Int) = some v := by
  have hj : j < xs.length := (List.getElem?_eq_some_iff.mp h).1
  have e : ixN xs.length (j : Int) = some j := by
    unfold ixN
    rw [if_pos (by omega), if_pos (by omega)]; simp
  unfold atI; rw [e]; exact h

/-! ### what may be subscripted -/
/-- what stands as an index of a plain subscript -/
noncomputable def PlainIx (b : Expr) : Prop := ∀ o i, subscripted b false o i = operate [o, i] (getItem o i)
/-- a subscript by values -/
noncomputable def IxR (X : Cx) (r : R2) : Prop :=
  ∀ (value slice : Expr) (pins : List (Addr × Obj)) (s : Shared) (σ : St) (H : Hp) (x y : V) (v u : Value) (Q : VK), Inv X pins σ H s → RelV x v → RelV y u → r x y H Q →
    subscripted slice false v u = operate [v, u] (getItem v u) → wpAny (model X.prog X.w) X.A (subscriptTail value slice v u) (EP X pins σ Q) X.xe s
/-- a call of a builtin's method by values: the receiver, the arguments -/
noncomputable def MtR (X : Cx) (id : String) (r : V → List V → Hp → VK → Prop) : Prop :=
  ∀ (pins : List (Addr × Obj)) (s : Shared) (σ : St) (H : Hp) (x : V) (xs : List V) (v : Value) (us : List Value) (Q : VK), Inv X pins σ H s → RelV x v → Vals xs us → r x xs H Q →
    wpAny (model X.prog X.w) X.A (call (.builtin id) (v :: us)) (EP X pins σ Q) X.xe s
section
variable {X : Cx} {a b : Expr} {ta tb : TE} {pos : Pos}
/-- a[b] -/
theorem pe_ix {r : R2} (hr : IxR X r) (ha : PE X a ta) (hb : PE X b tb) (hs : PlainIx b) : PE X (.Subscript a b pos) (tOp r ta tb) := by
  intro pins s σ H Q I h
  exact Subscript_ (binT ha hb I h fun v u s2 x y H2 I2 rx ry q => hr a b pins s2 σ H2 x y v u Q I2 rx ry q (hs _ _))

noncomputable def rIxL (K : PySem.W.Frag) : R2 := fun x y H Q => ∃ p xs i v, x = .ref p ∧ y = .int i ∧ SqL K H p xs ∧ atI xs i = some v ∧ Q v H
noncomputable def rIxT (K : PySem.W.Frag) : R2 := fun x y H Q => ∃ p xs i v, x = .ref p ∧ y = .int i ∧ SqT K H p xs ∧ atI xs i = some v ∧ Q v H
noncomputable def rIxS : R2 := fun x y H Q => ∃ z i c, x = .str z ∧ y = .int i ∧ z.length ≤ sizeLine ∧ atI z.cps.toList i = some c ∧ Q (.str ⟨#[c]⟩) H
theorem ix_list : IxR X (rIxL X.K) := by
  intro value slice pins s σ H x y v u Q I rx ry h hs
  obtain ⟨p, xs, i, z, rfl, rfl, hq, he, q⟩ := h
  cases rx
  obtain ⟨t, rfl⟩ := ry
  obtain ⟨its, r, pl, hz⟩ := I.list hq
  obtain ⟨j, h1, h2, h3, h4, h5⟩ := atI_get he
  obtain ⟨w, ew, rw'⟩ := r.get h2
  have hl := r.length
  have hn := line63
  have fin : EP X pins σ Q w s := ⟨z, H, I, rw', q⟩
  by_cases h0 : 0 ≤ i
  · have hj : i.toNat = j := by
      rw [seqIndex_of h0 h5] at h1
      exact Option.some.inj h1
    exact item_listR pl.isList h0 (by omega) (by rw [hj]; simpa using ew) fin hs
  · have hj : (i + (its.toArray.size : Int)).toNat = j := by
      rw [seqIndex_neg (by omega) h4] at h1
      rw [List.size_toArray, ← hl]
      exact Option.some.inj h1
    exact subscriptTail_builtinR (x := w) pl.isList.typeIs slot_list_getitem.lookup
      (wpAny_getItem_list_neg (Q := fun r s' => r = w ∧ EP X pins σ Q r s') pl.isList (by omega) (by rw [List.size_toArray] <;> omega) (by omega) (by rw [hj]; simpa using ew) ⟨rfl, fin⟩) hs
theorem ix_tup : IxR X (rIxT X.K) := by
  intro value slice pins s σ H x y v u Q I rx ry h hs
  obtain ⟨p, xs, i, z, rfl, rfl, hq, he, q⟩ := h
  cases rx
  obtain ⟨t, rfl⟩ := ry
  obtain ⟨its, r, pl, hz⟩ := I.tuple hq
  obtain ⟨j, h1, h2, h3, h4, h5⟩ := atI_get he
  obtain ⟨w, ew, rw'⟩ := r.get h2
  have hl := r.length
  have hn := line63
  have fin : EP X pins σ Q w s := ⟨z, H, I, rw', q⟩
  exact subscriptTail_builtinR (x := w) pl.typeIs slot_tuple_getitem.lookup
    (getItem_tuple (j := j) (Q := fun r s' => r = w ∧ EP X pins σ Q r s') pl (by omega) (by omega) (by rw [List.size_toArray, ← hl]; exact h1) (by simpa using ew) ⟨rfl, fin⟩) hs
theorem ix_str : IxR X rIxS := by
  intro value slice pins s σ H x y v u Q I rx ry h hs
  obtain ⟨z, i, c, rfl, rfl, hz, he, q⟩ := h
  obtain ⟨t, rfl⟩ := rx
  obtain ⟨t', rfl⟩ := ry
  obtain ⟨j, h1, h2, h3, h4, h5⟩ := atI_get he
  have hl : z.cps.toList.length = z.length := by simp [Str.length]
  rw [hl] at h1 h4 h5
  have hn := line63
  exact tail_any (typeIs_str s z t) slot_str_getitem.lookup (getItem_str (c := c) (by
    have e1 : decide (i < -(2 ^ 63 : Int)) = false := decide_eq_false (by omega)
    have e2 : decide (i ≥ 2 ^ 63) = false := decide_eq_false (by omega)
    rw [e1, e2, Bool.or_false]) (by rw [h1]; simpa using h2) ⟨.str ⟨#[c]⟩, H, I.tok _, ⟨_, rfl⟩, q⟩) hs

/-! ### xs[i] = v, any sign -/

/-! ### slices -/
theorem slice_bounds (lo hi : Option Int) (n : Nat) : (sliceBounds lo hi none n).1 = ((HT.sIx n 0 lo : Nat) : Int) ∧ (sliceBounds lo hi none n).2.1 = ((HT.sIx n n hi : Nat) : Int) ∧ (sliceBounds lo hi none n).2.2 = 1 := by
  refine ⟨?_, ?_, rfl⟩
  · cases lo with
    | none => simp [sliceBounds, HT.sIx]
    | some i =>
      simp only [sliceBounds, HT.sIx, Option.getD_none, show (1 : Int) > 0 by decide, if_true]
      by_cases h : i < 0
      · simp only [h, if_true] <;> omega
      · simp only [h, if_false] <;> omega
  · cases hi with
    | none => simp [sliceBounds, HT.sIx]
    | some i =>
      simp only [sliceBounds, HT.sIx, Option.getD_none, show (1 : Int) > 0 by decide, if_true]
      by_cases h : i < 0
      · simp only [h, if_true] <;> omega
      · simp only [h, if_false] <;> omega
theorem slicePick_cut (its : List Value) (lo hi : Option Int) : slicePick its.toArray lo hi none = ((its.drop (HT.sIx its.length 0 lo)).take (HT.sIx its.length its.length hi - HT.sIx its.length 0 lo)).toArray := by
  obtain ⟨h1, h2, h3⟩ := slice_bounds lo hi its.toArray.size
  unfold slicePick
  rw [h1, h2, h3]
  simp only [sliceRange_one, pick_run, List.size_toArray] <;> rfl
/-- xs[lo:hi] of a list: a new list -/
noncomputable def rSlL (K : PySem.W.Frag) : V → Option Int → Option Int → Hp → VK → Prop := fun x lo hi H Q => ∃ a xs, x = .ref a ∧ SqL K H a xs ∧ ∀ p, H p = none → Q (.ref p) (upd H p (.lst (cutV xs lo hi)))
theorem sl_list : SlR X (rSlL X.K) := by
  intro pins s σ H x v vl vu lo hi sl Q I rx hs pl pu h
  obtain ⟨a, xs, rfl, hx, q⟩ := h
  cases rx
  obtain ⟨its, r, ht, hz⟩ := I.list hx
  have hlen := r.length
  refine ⟨"list", _, slot_list_getitem.lookup, ht.isList.typeIs, ?_⟩
  refine wpAny_getItem_list_slice ht.isList hs pl pu .none (by simp) ?_ (by rw [List.size_toArray] <;> omega)
  rw [slicePick_cut, ← hlen]
  refine ⟨.ref s.heap.objs.size, _, I.laid (t' := s.toks) (o := .lst (cutV xs lo hi)) (fun b ob q => Heap.get?_push_of_some _ q) (Nat.le_refl _) ?_, rfl, q _ (I.hok.fresh (Nat.le_refl _))⟩
  exact ⟨Nat.le_trans (cutV_length xs lo hi) hz, _, 0, (r.drop (HT.sIx xs.length 0 lo)).take (HT.sIx xs.length xs.length hi - HT.sIx xs.length 0 lo), Heap.get?_push_size _ rfl⟩

/-! ### in, not in: flat items -/

/-! ### len, list(x), tuple(x) of any list or tuple that is read -/
theorem call_len_seq : CallR X (.builtin "len") (fun xs H Q => ∃ p ys, xs = [.ref p] ∧ (SqL X.K H p ys ∨ SqT X.K H p ys) ∧ Q (.int ys.length) H) := by
  intro pins s σ H xs us Q I r h
  obtain ⟨p, ys, rfl, hq, q⟩ := h
  obtain ⟨u, rfl, rx⟩ := vals1 r
  cases rx
  have hn := line63
  rcases hq with hq | hq
  · obtain ⟨its, r', pl, hz⟩ := I.list hq
    have hlen := r'.length
    exact Calls.call_len_list pl.isList (by simp only [List.size_toArray] <;> omega) ⟨.int ys.length, H, I.tok _, ⟨s.toks + 1, by rw [List.size_toArray, hlen]⟩, q⟩
  · obtain ⟨its, r', pl, hz⟩ := I.tuple hq
    have hlen := r'.length
    exact len_tuple pl (by simp only [List.size_toArray] <;> omega) ⟨.int ys.length, H, I.tok _, ⟨s.toks + 1, by rw [List.size_toArray, hlen]⟩, q⟩
theorem call_len_str : CallR X (.builtin "len") (fun xs H Q => ∃ z, xs = [.str z] ∧ z.length ≤ sizeLine ∧ Q (.int z.length) H) := by
  intro pins s σ H xs us Q I r h
  obtain ⟨z, rfl, hz, q⟩ := h
  obtain ⟨u, rfl, t, rfl⟩ := vals1 r
  have hn := line63
  exact len_str (by omega) ⟨.int z.length, H, I.tok _, ⟨_, rfl⟩, q⟩
theorem call_list_of : CallR X (.type "list") (fun xs H Q => ∃ p ys, xs = [.ref p] ∧ (SqL X.K H p ys ∨ SqT X.K H p ys) ∧ ∀ l, H l = none → Q (.ref l) (upd H l (.lst ys))) := by
  intro pins s σ H xs us Q I r h
  obtain ⟨p, ys, rfl, hq, q⟩ := h
  obtain ⟨u, rfl, rx⟩ := vals1 r
  cases rx
  have fin : ∀ (its : List Value), Vals ys its → ys.length ≤ sizeLine → ∀ (h' : Heap) (c' : Nat), (∀ b o', s.heap.get? b = some o' → h'.get? b = some o') →
      h'.get? s.heap.objs.size = some { cls := .type "list", dict := none, data := .seq its.toArray c', slots := #[] } → EP X pins σ Q (.ref s.heap.objs.size) { s with heap := h' } := fun its r' hz h' c' kp e =>
    ⟨.ref s.heap.objs.size, _, I.laid (t' := s.toks) kp (Nat.le_refl _) (show ObjOk X.prog X.w _ h' _ (.lst ys) from ⟨hz, its, c', r', e⟩), rfl, q _ (I.hok.fresh (Nat.le_refl _))⟩
  rcases hq with hq | hq
  · obtain ⟨its, r', pl, hz⟩ := I.list hq
    have hlen := r'.length
    obtain ⟨o, ho, hc, n, hd⟩ := pl.isList
    exact call_list_seq p (.inl rfl) ho hc hd (fun h' c' kp e => fin its r' hz h' c' kp e) (by simp only [List.size_toArray] <;> omega)
  · obtain ⟨its, r', pl, hz⟩ := I.tuple hq
    have hlen := r'.length
    obtain ⟨o, ho, hc, n, hd⟩ := pl
    exact call_list_seq p (.inr rfl) ho hc hd (fun h' c' kp e => fin its r' hz h' c' kp e) (by simp only [List.size_toArray] <;> omega)

/-! ### the call of a builtin's method: o.m(..) -/
/-- the value is of that builtin type -/
noncomputable def tyV (K : PySem.W.Frag) (T : String) (x : V) (H : Hp) : Prop := match x with
  | .str _ => T = "str"
  | .int _ => T = "int"
  | .ref p => (T = "list" ∧ ∃ xs, SqL K H p xs) ∨ (T = "tuple" ∧ ∃ o, K.lookup p = some o ∧ o.cls = .type "tuple" ∧ o.dict = none) ∨
      (T = "dict" ∧ ((∃ kvs, H p = some (.dK kvs)) ∨ ∃ kvs, H p = some (.dT kvs))) ∨ (T = "set" ∧ ∃ S n, H p = some (.set S n))
  | _ => False
theorem tyV_is {pins : List (Addr × Obj)} {σ : St} {H : Hp} {s : Shared} {T : String} {x : V} {v : Value} (I : Inv X pins σ H s) (r : RelV x v) (ty : tyV X.K T x H) :
    s.TypeIs v T ∧ ∀ a, v = .ref a → ∃ ob, s.heap.get? a = some ob ∧ ob.dict = none := by
  cases x with
  | str z =>
    obtain ⟨t, rfl⟩ := r
    cases (show T = "str" from ty)
    exact ⟨typeIs_str s z t, fun _ e => nomatch e⟩
  | int i =>
    obtain ⟨t, rfl⟩ := r
    cases (show T = "int" from ty)
    exact ⟨typeIs_int s i t, fun _ e => nomatch e⟩
  | ref p =>
    cases r
    rcases ty with ⟨rfl, xs, hq⟩ | ⟨rfl, o, hk, hc, hd⟩ | ⟨rfl, hk⟩ | ⟨rfl, S, n, hk⟩
    · obtain ⟨its, _, pl, _⟩ := I.list hq
      refine ⟨pl.isList.typeIs, fun a e => ?_⟩
      cases e
      obtain ⟨o, n, e, c, hd, _⟩ := pl
      exact ⟨o, e, hd⟩
    · refine ⟨⟨o, I.kIn p o hk, hc⟩, fun a e => ?_⟩
      cases e
      exact ⟨o, I.kIn _ o hk, hd⟩
    · have z : ∃ o, s.heap.get? p = some o ∧ o.ExactDict := by
        rcases hk with ⟨kvs, hk⟩ | ⟨kvs, hk⟩
        · obtain ⟨_, _, _, _, o, _, _, e, ex, _⟩ := I.hok p _ hk
          exact ⟨o, e, ex⟩
        · obtain ⟨_, _, _, _, o, _, _, e, ex, _⟩ := I.hok p _ hk
          exact ⟨o, e, ex⟩
      obtain ⟨o, e, ex⟩ := z
      refine ⟨⟨o, e, ex.1⟩, fun a e2 => ?_⟩
      cases e2
      exact ⟨o, e, ex.2.1⟩
    · obtain ⟨o, _, _, _, e, ex, _⟩ := I.hok p _ hk
      refine ⟨⟨o, e, ex.1⟩, fun a e2 => ?_⟩
      cases e2
      exact ⟨o, e, ex.2.1⟩
  | _ => exact False.elim ty
noncomputable def tBM0 (K : PySem.W.Frag) (T : String) (r : V → List V → Hp → VK → Prop) (to : TE) : TE := fun σ H Q => to σ H fun x H1 => tyV K T x H1 ∧ r x [] H1 Q
noncomputable def tBM (K : PySem.W.Frag) (T : String) (r : V → List V → Hp → VK → Prop) (to : TE) (t : TA) : TE := fun σ H Q => to σ H fun x H1 => tyV K T x H1 ∧ t σ H1 fun xs H2 => r x xs H2 Q
variable {o e : Expr} {es : List Expr} {to : TE} {t : TA} {name : Str} {apos cpos : Pos} {T id : String} {r : V → List V → Hp → VK → Prop}
theorem pe_bm0 (pa : PlainAttrs T) (slot : Slot T name id) (hty : typeOf (.builtin id) = pure (.type "method_descriptor")) (hm : MtR X id r) (ho : PE X o to)
    (hbase : attributeBase o name X.env (eval o X.env) = eval o X.env := by rfl) (hline : (apos.endLine == cpos.line) = true := by rfl) : PE X (.Call (.Attribute o name apos) [] [] cpos) (tBM0 X.K T r to) := by
  intro pins s σ H Q I h
  refine wpAny_Call_method0_late hbase hline (thn (ho pins s σ H _ I h) fun v s1 ⟨x, H1, I1, r1, ty, q1⟩ => ?_)
  obtain ⟨h1, h2⟩ := tyV_is I1 r1 ty
  exact ⟨T, id, pa, slot, hty, h1, h2, Calls.callWith_builtin rfl (PySem.evalArgs_none (hm pins s1 σ H1 x [] v [] Q I1 r1 .nil q1))⟩
theorem pe_bm (pa : PlainAttrs T) (slot : Slot T name id) (hty : typeOf (.builtin id) = pure (.type "method_descriptor")) (hm : MtR X id r) (ho : PE X o to) (ha : PA X (e :: es) t)
    (hbase : attributeBase o name X.env (eval o X.env) = eval o X.env := by rfl)
    (hfew : ((backTo cpos (starEach (e :: es) X.env)).all (fun x => !x.1) && (backToKw cpos (keywordEach [] X.env)).all (fun x => x.1.isSome)
      && decide ((e :: es).length + ([] : List Keyword).length + (if ([] : List Keyword).isEmpty then 0 else 1) < 30)) = true := by rfl)
    (hline : (apos.endLine == cpos.line) = true := by rfl) (hs : starEach (e :: es) X.env = (false, eval e X.env) :: starEach es X.env := by rfl) (hplain : (backTo cpos (starEach es X.env)).any (·.1) = false := by rfl) :
    PE X (.Call (.Attribute o name apos) (e :: es) [] cpos) (tBM X.K T r to t) := by
  intro pins s σ H Q I h
  refine wpAny_Call_method_late hbase hfew hline rfl (thn (ho pins s σ H _ I h) fun v s1 ⟨x, H1, I1, r1, ty, q1⟩ => ?_)
  obtain ⟨h1, h2⟩ := tyV_is I1 r1 ty
  refine ⟨T, id, pa, slot, hty, h1, h2, ?_⟩
  have hA := ha cpos pins s1 σ H1 _ I1 q1
  rw [hs] at hA ⊢
  refine Calls.callWith_builtin (by show (false || (backTo cpos (starEach es X.env)).any (·.1)) = false; rw [hplain] <;> rfl) (Calls.evalArgs_plain ?_)
  exact thn hA fun us s2 ⟨vs, H2, I2, r2, q2⟩ => hm pins s2 σ H2 x vs v us Q I2 r1 r2 q2
/- xs.append(e), list.index on a module's tuple .. are MtR facts of 06m -/
end
end L2

namespace L2
open PySem PySem.Spec PyProof.Rows

noncomputable def MtM (X : Cx) (id : String) (r : V → List V → Hp → VK → Prop) : Prop :=
  ∀ (pins : List (Addr × Obj)) (s : Shared) (σ : St) (H : Hp) (x : V) (xs : List V) (v : Value) (us : List Value) (Q : VK), Inv X pins σ H s → RelV x v → Vals xs us → r x xs H Q →
    wpAny (model X.prog X.w) X.A (call (.builtin id) (v :: us)) (EP X pins σ Q) X.xe s

/-! ### lists of values -/
theorem Vals.one : ∀ {x : V} {us : List Value}, Vals [x] us → ∃ u, us = [u] ∧ RelV x u
  | _, _, .cons r .nil => ⟨_, rfl, r⟩
theorem Vals.two : ∀ {x y : V} {us : List Value}, Vals [x, y] us → ∃ u v, us = [u, v] ∧ RelV x u ∧ RelV y v
  | _, _, _, .cons r (.cons q .nil) => ⟨_, _, rfl, r, q⟩
theorem Vals.zero : ∀ {us : List Value}, Vals [] us → us = []
  | _, .nil => rfl
theorem Vals.dropLast {xs : List V} {us : List Value} (h : Vals xs us) : Vals xs.dropLast us.dropLast := by
  induction h with
  | nil => exact .nil
  | cons r t ih =>
    cases t with
    | nil => exact .nil
    | cons q t' => exact .cons r ih
theorem erase_last {α : Type} (l : List α) : l.eraseIdx (l.length - 1) = l.dropLast := by
  induction l with
  | nil => rfl
  | cons a r ih =>
    cases r with
    | nil => rfl
    | cons b r =>
      have e : (a :: b :: r).length - 1 = ((b :: r).length - 1) + 1 := by
        have h1 : (a :: b :: r).length = r.length + 2 := rfl
        have h2 : (b :: r).length = r.length + 1 := rfl
        omega
      rw [e, List.eraseIdx_cons_succ, ih]
      all_goals rfl

section
variable {X : Cx} {pins : List (Addr × Obj)} {σ : St} {H : Hp} {s : Shared} {l b : Addr} {xs ys zs : List V}

/-! ### the two steps: a tracked list is rewritten, a new list is laid -/
theorem Inv.lset {its its' : List Value} {n : Nat} {f : Array Value → Array Value} {t' : Nat} (I : Inv X pins σ H s) (hH : H l = some (.lst xs))
    (e : s.heap.get? l = some { cls := .type "list", data := .seq its.toArray n }) (hf : f its.toArray = its'.toArray) (hv : Vals ys its') (hz : ys.length ≤ sizeLine) :
    Inv X pins σ (upd H l (.lst ys)) { s with heap := s.heap.update l (Obj.mapSeq f), toks := t' } := by
  have q := PySem.IsL.update e f
  rw [hf] at q
  refine I.write (x := l) (e := l) (by rw [hH]; exact trivial) (.inl rfl) (fun b' u hb hu => (Heap.get?_update_other s.heap (Obj.mapSeq f) (Ne.symm hb)).trans hu) ⟨_, q⟩ ?_
  exact ⟨hz, its', _, hv, q⟩
theorem Inv.lnew {its : List Value} {t' : Nat} (I : Inv X pins σ H s) (hv : Vals ys its) (hz : ys.length ≤ sizeLine) :
    Inv X pins σ (upd H s.heap.objs.size (.lst ys)) { s with heap := s.heap.push { cls := .type "list", data := .seq its.toArray }, toks := t' } :=
  I.laid (fun _ _ q => Heap.get?_push_of_some _ q) (Nat.le_refl _) ⟨hz, its, 0, hv, Heap.get?_push_size _ rfl⟩
theorem Inv.fresh (I : Inv X pins σ H s) : H s.heap.objs.size = none := I.hok.fresh (Nat.le_refl _)
theorem Inv.lstM (I : Inv X pins σ H s) (hH : H l = some (.lst xs)) : xs.length ≤ sizeLine ∧ ∃ (its : List Value) (n : Nat), Vals xs its ∧ xs.length = its.length ∧ s.heap.get? l = some { cls := .type "list", data := .seq its.toArray n } := by
  obtain ⟨z, its, n, r, e⟩ := I.hok l _ hH
  exact ⟨z, its, n, r, r.length, e⟩

end

section
variable {X : Cx}

/-! ### methods -/
noncomputable def rAppend : V → List V → Hp → VK → Prop := fun x vs H Q => ∃ l xs y, x = .ref l ∧ vs = [y] ∧ H l = some (.lst xs) ∧ xs.length < sizeLine ∧ Q .non (upd H l (.lst (xs ++ [y])))
theorem mt_append : MtM X "list.append" rAppend := by
  intro pins s σ H x vs v us Q I rx rv h
  obtain ⟨l, xs, y, rfl, rfl, hH, hz, q⟩ := h
  cases rx
  obtain ⟨u, rfl, ru⟩ := rv.one
  obtain ⟨z, its, n, r, hl, e⟩ := I.lstM hH
  refine call_meets F.slot_list_append ⟨_, e, rfl⟩ F.entry_list_append (F.args_list_append_2 _ _) (PySem.list_append l its.toArray n u (by rw [List.size_toArray]; omega)) ⟨e, ?_⟩
  refine ⟨.non, _, I.lset (its' := its ++ [u]) hH e (by simp) (r.append (.cons ru .nil)) ?_, rfl, q⟩
  rw [List.length_append, List.length_singleton]
  omega


noncomputable def rPop : V → List V → Hp → VK → Prop := fun x vs H Q => ∃ l xs y, x = .ref l ∧ vs = [] ∧ H l = some (.lst xs) ∧ xs[xs.length - 1]? = some y ∧ Q y (upd H l (.lst xs.dropLast))
theorem mt_pop : MtM X "list.pop" rPop := by
  intro pins s σ H x vs v us Q I rx rv h
  obtain ⟨l, xs, y, rfl, rfl, hH, hy, q⟩ := h
  cases rx
  have hus := rv.zero
  subst hus
  obtain ⟨z, its, n, r, hl, e⟩ := I.lstM hH
  obtain ⟨u, hu, ru⟩ := r.get hy
  have hy' : its.toArray[its.toArray.size - 1]? = some u := by
    show its.toArray[its.length - 1]? = some u
    rw [← Array.getElem?_toList, ← hl]
    exact hu
  refine call_meets F.slot_list_pop ⟨_, e, rfl⟩ F.entry_list_pop (F.args_list_pop_1 _) (MeetsSeq.list_pop_last l its.toArray n u hy' (by rw [List.size_toArray]; omega)) ⟨e, ?_⟩
  refine ⟨y, _, I.lset (its' := its.dropLast) hH e ?_ r.dropLast ?_, ru, q⟩
  · show its.toArray.eraseIdxIfInBounds (its.toArray.size - 1) = its.dropLast.toArray
    rw [List.size_toArray, List.eraseIdxIfInBounds_toArray, erase_last]
  · rw [List.length_dropLast]
    omega




/-! ### list + list, list += list, list * int -/
noncomputable def rCat : R2 := fun x y H Q => ∃ l b xs zs, x = .ref l ∧ y = .ref b ∧ H l = some (.lst xs) ∧ H b = some (.lst zs) ∧ xs.length + zs.length ≤ sizeLine ∧ ∀ p, H p = none → Q (.ref p) (upd H p (.lst (xs ++ zs)))
theorem op_cat : OpR X (binaryOp .Add) rCat := by
  intro pins s σ H x y v u Q I rx ry h
  obtain ⟨l, b, xs, zs, rfl, rfl, hH, hB, hz, q⟩ := h
  cases rx
  cases ry
  obtain ⟨z, its, n, r, hl, e⟩ := I.lstM hH
  obtain ⟨z2, its2, n2, r2, hl2, e2⟩ := I.lstM hB
  refine PySem.P.add_list e e2 ?_ (by rw [List.size_toArray, List.size_toArray]; omega)
  have ea : its.toArray ++ its2.toArray = (its ++ its2).toArray := by simp
  rw [ea]
  exact ⟨.ref _, _, I.lnew (t' := s.toks) (r.append r2) (by rw [List.length_append]; omega), rfl, q _ I.fresh⟩
theorem len_rep {α : Type} (xs : List α) (k : Nat) : (List.replicate k xs).flatten.length = k * xs.length := by
  induction k with
  | zero => simp
  | succ k ih => rw [List.replicate_succ, List.flatten_cons, List.length_append, ih, Nat.succ_mul, Nat.add_comm]

/-! ### del xs[i] -/
end

/-! ### xs[a:b] = ys -/
section
variable {prog : Program} {w : World} {A : Around} {E : Value → Shared → Prop} {s : Shared}
end

section
variable {X : Cx}
end
end L2

namespace L2
open PySem PySem.Spec PyProof.Rows

/-! ### lists of pairs as tables -/
section
variable {κ : Type} [DecidableEq κ]
noncomputable def valV (kvs : List (κ × V)) (k : κ) : Option V := (kvs.find? fun kv => decide (kv.1 = k)).map (·.2)
/-- in its place, or at the end -/
noncomputable def putK (kvs : List (κ × V)) (k : κ) (v : V) : List (κ × V) :=
  if (kvs.any fun kv => decide (kv.1 = k)) = true then kvs.map (fun kv => if kv.1 = k then (kv.1, v) else kv) else kvs ++ [(k, v)]

theorem valV_pos {p : κ × V} {r : List (κ × V)} {k : κ} (e : p.1 = k) : valV (p :: r) k = some p.2 := by simp [valV, List.find?_cons, e]
theorem valV_neg {p : κ × V} {r : List (κ × V)} {k : κ} (e : ¬ p.1 = k) : valV (p :: r) k = valV r k := by simp [valV, List.find?_cons, e]
theorem valV_any (k : κ) : ∀ kvs : List (κ × V), (kvs.any fun kv => decide (kv.1 = k)) = (valV kvs k).isSome
  | [] => rfl
  | p :: r => by
    rw [List.any_cons]
    by_cases e : p.1 = k
    · simp only [valV_pos e, decide_eq_true e, Bool.true_or, Option.isSome_some]
    · rw [valV_neg e, decide_eq_false e, Bool.false_or]; exact valV_any k r
theorem valV_map (k j : κ) (y : V) : ∀ kvs : List (κ × V), valV (kvs.map fun kv => if kv.1 = k then (kv.1, y) else kv) j = (valV kvs j).map fun x => if j = k then y else x
  | [] => rfl
  | p :: r => by
    have ih := valV_map k j y r
    rw [List.map_cons]
    by_cases h : p.1 = k
    · rw [if_pos h]
      by_cases e : p.1 = j
      · rw [valV_pos (p := (p.1, y)) e, valV_pos e, Option.map_some, if_pos (e.symm.trans h)]
      · rw [valV_neg (p := (p.1, y)) e, valV_neg e, ih]
    · rw [if_neg h]
      by_cases e : p.1 = j
      · rw [valV_pos (p := p) e, valV_pos e, Option.map_some, if_neg (fun z => h (e.trans z))]
      · rw [valV_neg (p := p) e, valV_neg e, ih]
theorem valV_snoc (k j : κ) (y : V) : ∀ kvs : List (κ × V), valV kvs k = none → valV (kvs ++ [(k, y)]) j = if j = k then some y else valV kvs j
  | [], _ => by
    by_cases e : k = j
    · rw [if_pos e.symm]; exact valV_pos (p := (k, y)) e
    · rw [if_neg (fun z => e z.symm)]; exact valV_neg (p := (k, y)) e
  | p :: r, hn => by
    rw [List.cons_append]
    have hk : ¬ p.1 = k := fun z => by rw [valV_pos z] at hn; cases hn
    rw [valV_neg hk] at hn
    have ih := valV_snoc k j y r hn
    by_cases e : p.1 = j
    · rw [valV_pos e, valV_pos e, if_neg (fun z => hk (e.trans z))]
    · rw [valV_neg e, valV_neg e, ih]
theorem valV_put (kvs : List (κ × V)) (k j : κ) (y : V) : valV (putK kvs k y) j = if j = k then some y else valV kvs j := by
  unfold putK
  by_cases a : (kvs.any fun kv => decide (kv.1 = k)) = true
  · rw [if_pos a, valV_map]
    rw [valV_any] at a
    by_cases e : j = k
    · obtain ⟨x, hx⟩ := Option.isSome_iff_exists.mp a
      rw [if_pos e, e, hx, Option.map_some, if_pos rfl]
    · rw [if_neg e]
      cases valV kvs j with
      | none => rfl
      | some x => rw [Option.map_some, if_neg e]
  · rw [if_neg a]
    refine valV_snoc k j y kvs ?_
    rw [valV_any] at a
    cases q : valV kvs k with
    | none => rfl
    | some x => rw [q] at a; exact (a rfl).elim
theorem length_putK (kvs : List (κ × V)) (k : κ) (v : V) : (putK kvs k v).length ≤ kvs.length + 1 := by
  unfold putK
  split
  · rw [List.length_map]; omega
  · rw [List.length_append, List.length_cons, List.length_nil]; omega

theorem RelO.isSome_eq {o : Option V} {u : Option Value} (r : RelO o u) : o.isSome = u.isSome := by
  cases o with
  | none => cases u with
    | none => rfl
    | some _ => exact (show False from r).elim
  | some _ => cases u with
    | none => exact (show False from r).elim
    | some _ => rfl

/-- raw tables of the same keys -/
theorem KV.val {kvs : List (κ × V)} {vs : List (κ × Value)} (r : KV kvs vs) (k : κ) : RelO (valV kvs k) (valueAt vs k) := by
  unfold KV at r
  induction r with
  | nil => exact True.intro
  | @cons p q ps qs h t ih =>
    obtain ⟨h1, h2⟩ := h
    by_cases e : p.1 = k
    · have e' : q.1 = k := h1.symm.trans e
      have b : valueAt (q :: qs) k = some q.2 := by simp [valueAt, List.find?_cons, e']
      rw [valV_pos e, b]; exact h2
    · have e' : ¬ q.1 = k := fun z => e (h1.trans z)
      have b : valueAt (q :: qs) k = valueAt qs k := by simp [valueAt, List.find?_cons, e']
      rw [valV_neg e, b]; exact ih
theorem KV.any {kvs : List (κ × V)} {vs : List (κ × Value)} (r : KV kvs vs) (k : κ) : (kvs.any fun kv => decide (kv.1 = k)) = vs.any fun kv => decide (kv.1 = k) := by
  unfold KV at r
  induction r with
  | nil => rfl
  | cons h t ih => rw [List.any_cons, List.any_cons, ih, h.1]
theorem KV.repl {kvs : List (κ × V)} {vs : List (κ × Value)} (r : KV kvs vs) (k : κ) {y : V} {u : Value} (ry : RelV y u) :
    KV (kvs.map fun kv => if kv.1 = k then (kv.1, y) else kv) (vs.map fun kv => if kv.1 = k then (kv.1, u) else kv) := by
  unfold KV at r ⊢
  induction r with
  | nil => exact .nil
  | @cons p q ps qs h t ih =>
    rw [List.map_cons, List.map_cons]
    refine .cons ?_ ih
    obtain ⟨h1, h2⟩ := h
    by_cases e : p.1 = k
    · rw [if_pos e, if_pos (h1.symm.trans e)]; exact ⟨h1, ry⟩
    · rw [if_neg e, if_neg (fun z => e (h1.trans z))]; exact ⟨h1, h2⟩
theorem KV.put {kvs : List (κ × V)} {vs : List (κ × Value)} (r : KV kvs vs) (k : κ) {y : V} {u : Value} (ry : RelV y u) : KV (putK kvs k y) (stored vs k u) := by
  unfold putK stored
  rw [r.any k]
  by_cases e : (vs.any fun kv => decide (kv.1 = k)) = true
  · rw [if_pos e, if_pos e]; exact r.repl k ry
  · rw [if_neg e, if_neg e]; exact Paired.snoc r ⟨rfl, ry⟩
theorem KV.length {kvs : List (κ × V)} {vs : List (κ × Value)} (r : KV kvs vs) : kvs.length = vs.length := Paired.length r
end


/-! ### a tracked dict, its keys ints and texts or tuples of these -/
theorem kV_is {P : Program} {w : World} {k : Key} {u : Value} (r : RelV (kV k) u) : (mixKind P w).is k u = true := by
  cases k with
  | inl i => obtain ⟨t, e⟩ := (show ∃ t, u = Value.int i t from r); subst e; exact mixKind_int P w i t
  | inr x => obtain ⟨t, e⟩ := (show ∃ t, u = Value.str x t from r); subst e; exact mixKind_str P w x t
theorem items_are {P : Program} {w : World} : ∀ {ks : List Key} {us : List Value}, Vals (ks.map kV) us → ItemsAre (mixKind P w) ks us
  | [], _, r => by rw [List.map_nil] at r; cases r; exact .nil
  | k :: ks, _, r => by
    rw [List.map_cons] at r
    cases r with
    | cons h t => exact .cons (kV_is h) (items_are t)

/-- raw entries of a dict with tuple keys -/
noncomputable abbrev KT (H : Hp) : List (List Key × V) → List (List Key × Addr × Value) → Prop := Paired fun p q => p.1 = q.1 ∧ H q.2.1 = some (.tup (p.1.map kV)) ∧ RelV p.2 q.2.2
theorem KT.val {H : Hp} {kvs : List (List Key × V)} {xs : List (List Key × Addr × Value)} (r : KT H kvs xs) (k : List Key) : RelO (valV kvs k) ((atKey xs k).map (·.2)) := by
  induction r with
  | nil => exact True.intro
  | @cons p q ps qs h t ih =>
    obtain ⟨h1, _, h2⟩ := h
    by_cases e : p.1 = k
    · have e' : q.1 = k := h1.symm.trans e
      have b : atKey (q :: qs) k = some q.2 := by simp [atKey, List.find?_cons, e']
      rw [valV_pos e, b]; exact h2
    · have e' : ¬ q.1 = k := fun z => e (h1.trans z)
      have b : atKey (q :: qs) k = atKey qs k := by simp [atKey, List.find?_cons, e']
      rw [valV_neg e, b]; exact ih
theorem KT.repl {H : Hp} {kvs : List (List Key × V)} {xs : List (List Key × Addr × Value)} (r : KT H kvs xs) (k : List Key) {y : V} {u : Value} (ry : RelV y u) :
    KT H (kvs.map fun kv => if kv.1 = k then (kv.1, y) else kv) (xs.map (putAt k u)) := by
  induction r with
  | nil => exact .nil
  | @cons p q ps qs h t ih =>
    rw [List.map_cons, List.map_cons]
    refine .cons ?_ ih
    obtain ⟨h1, h2, h3⟩ := h
    unfold putAt
    by_cases e : p.1 = k
    · rw [if_pos e, if_pos (h1.symm.trans e)]; exact ⟨h1, h2, ry⟩
    · rw [if_neg e, if_neg (fun z => e (h1.trans z))]; exact ⟨h1, h2, h3⟩
theorem KT.put {H : Hp} {kvs : List (List Key × V)} {xs : List (List Key × Addr × Value)} (r : KT H kvs xs) (k : List Key) {b : Addr} {y : V} {u : Value} (hb : H b = some (.tup (k.map kV))) (ry : RelV y u) :
    KT H (putK kvs k y) (storedH xs k b u) := by
  have e : (kvs.any fun kv => decide (kv.1 = k)) = (atKey xs k).isSome := by
    rw [valV_any, (r.val k).isSome_eq, Option.isSome_map]
  unfold putK storedH
  rw [e]
  by_cases q : (atKey xs k).isSome = true
  · rw [if_pos q, if_pos q]; exact r.repl k ry
  · rw [if_neg q, if_neg q]; exact Paired.snoc r ⟨rfl, hb, ry⟩
theorem KT.keeps {H H' : Hp} {kvs : List (List Key × V)} {xs : List (List Key × Addr × Value)} (r : KT H kvs xs) (ht : ∀ b ys, H b = some (.tup ys) → H' b = some (.tup ys)) : KT H' kvs xs :=
  Paired.mapP r fun _ _ z => ⟨z.1, ht _ _ z.2.1, z.2.2⟩

section
variable {P : Program} {w : World} {H : Hp} {h : Heap} {a : Addr}
theorem rd_of {u : HO} (ok : HOk P w H h) (e : Rd H a u) : ObjOk P w H h a u := e.ok ok
theorem dk_rd {kvs : List (Key × V)} (ok : HOk P w H h) (e : Rd H a (.dK kvs)) : kvs.length ≤ sizeLine ∧ (a == sysModules) = false ∧ ∃ vs, KV kvs vs ∧ h.DictOf (mixKind P w) a vs :=
  show ObjOk P w H h a (.dK kvs) from rd_of ok e
theorem dk_of {kvs : List (Key × V)} (ok : HOk P w H h) (e : H a = some (.dK kvs)) : kvs.length ≤ sizeLine ∧ (a == sysModules) = false ∧ ∃ vs, KV kvs vs ∧ h.DictOf (mixKind P w) a vs := dk_rd ok (.inl e)
/-- a tracked tuple of ints and texts is a key -/
theorem key_of {ks : List Key} (ok : HOk P w H h) (e : H a = some (.tup (ks.map kV))) : (tupleKind (mixKind P w)).is h ks a := by
  obtain ⟨_, its, r, o, h1, h2, n, h3⟩ := (show ObjOk P w H h a (.tup (ks.map kV)) from ok a _ e)
  exact ⟨o, its.toArray, n, h1, h2, h3, by simpa using items_are r⟩
theorem dt_rd {kvs : List (List Key × V)} (ok : HOk P w H h) (e : Rd H a (.dT kvs)) : kvs.length ≤ sizeLine ∧ (a == sysModules) = false ∧
    ∃ xs, KT H kvs xs ∧ h.DictOfH (tupleKind (mixKind P w)) a xs := by
  obtain ⟨z, y, xs, r, o, es, ep, h1, h2, h3, h4, h5⟩ := (show ObjOk P w H h a (.dT kvs) from rd_of ok e)
  refine ⟨z, y, xs, r, o, es, ep, h1, h2, h3, h4, fun x hx => ?_, h5⟩
  have all : ∀ {l : List (List Key × V)} {m : List (List Key × Addr × Value)}, KT H l m → ∀ x ∈ m, (tupleKind (mixKind P w)).is h x.1 x.2.1 := by
    intro l m q
    induction q with
    | nil => intro x hx; exact nomatch hx
    | @cons p q ps qs hq t ih =>
      intro x hx
      rcases List.mem_cons.mp hx with e | hx
      · subst e
        exact key_of ok (by rw [← hq.1]; exact hq.2.1)
      · exact ih x hx
  exact all r x hx
theorem dt_of {kvs : List (List Key × V)} (ok : HOk P w H h) (e : H a = some (.dT kvs)) : kvs.length ≤ sizeLine ∧ (a == sysModules) = false ∧
    ∃ xs, KT H kvs xs ∧ h.DictOfH (tupleKind (mixKind P w)) a xs := dt_rd ok (.inl e)
end

/-- what the dict at a holds at the key y -/
noncomputable def DGet (H : Hp) (a : Addr) (y : V) (r : Option V) : Prop :=
  (∃ kvs k, Rd H a (.dK kvs) ∧ y = kV k ∧ r = valV kvs k) ∨ ∃ kvs k b, Rd H a (.dT kvs) ∧ y = .ref b ∧ H b = some (.tup (k.map kV)) ∧ r = valV kvs k
/-- the heap behind a[y] = v -/
noncomputable def DPut (H : Hp) (a : Addr) (y v : V) (H' : Hp) : Prop :=
  (∃ kvs k, H a = some (.dK kvs) ∧ y = kV k ∧ kvs.length < sizeLine ∧ H' = upd H a (.dK (putK kvs k v))) ∨
  ∃ kvs k b, H a = some (.dT kvs) ∧ y = .ref b ∧ H b = some (.tup (k.map kV)) ∧ kvs.length < sizeLine ∧ H' = upd H a (.dT (putK kvs k v))
theorem DGet.k {H : Hp} {a : Addr} {kvs : List (Key × V)} {k : Key} (e : H a = some (.dK kvs)) : DGet H a (kV k) (valV kvs k) := .inl ⟨kvs, k, .inl e, rfl, rfl⟩
theorem DPut.k {H : Hp} {a : Addr} {kvs : List (Key × V)} {k : Key} {v : V} (e : H a = some (.dK kvs)) (hl : kvs.length < sizeLine) : DPut H a (kV k) v (upd H a (.dK (putK kvs k v))) := .inl ⟨kvs, k, e, rfl, hl, rfl⟩


section
variable {X : Cx} {pins : List (Addr × Obj)} {σ : St} {H : Hp} {s : Shared} {a : Addr} {y v : V} {u r : Value} {o : Option V} {A : Around} {E : Value → Shared → Prop}

theorem Inv.big (I : Inv X pins σ H s) : sysModules < s.heap.objs.size := by
  have h : mainGlobals < s.heap.objs.size := (I.mod.glob.keeps I.bk).lt
  exact Nat.lt_trans (by decide) h

/-- d[y], there -/
theorem d_getItem {Q : Value → Shared → Prop} (hu : A.units + 1 < cLine) (I : Inv X pins σ H s) (g : DGet H a y (some v)) (ry : RelV y u) (h : ∀ w' s', Inv X pins σ H s' → RelV v w' → Q w' s') :
    wpAny (model X.prog X.w) A (getItem (.ref a) u) Q E s := by
  rcases g with ⟨kvs, k, e, ey, l⟩ | ⟨kvs, k, b, e, ey, eb, l⟩
  · subst ey
    obtain ⟨z, hd, vs, rel, dd⟩ := dk_rd I.hok e
    obtain ⟨w', hw, rw'⟩ := RelO.some_of (v := v) (o := valueAt vs k) (by rw [l]; exact rel.val k)
    exact wpAny_getItem_of (kV_is ry) dd.mapOf hw (h w' _ (I.tok _) rw')
  · subst ey
    cases (show u = Value.ref b from ry)
    obtain ⟨z, hd, xs, rel, dd⟩ := dt_rd I.hok e
    obtain ⟨w', hw, rw'⟩ := RelO.some_of (v := v) (o := (atKey xs k).map (·.2)) (by rw [l]; exact rel.val k)
    obtain ⟨p, hp, hp2⟩ := Option.map_eq_some_iff.mp hw
    refine wpAny_getItem_heap (tupleKind_room_in1 hu) (key_of I.hok eb) dd hp ?_
    rw [hp2]
    exact h w' _ (I.tok _) rw'
/-- y in d -/
theorem d_in {Q : Value → Shared → Prop} (hu : A.units + 1 < cLine) (I : Inv X pins σ H s) (g : DGet H a y o) (ry : RelV y u) (h : ∀ s', Inv X pins σ H s' → Q (.bool o.isSome) s') :
    wpAny (model X.prog X.w) A (compareOp .In u (.ref a)) Q E s := by
  rcases g with ⟨kvs, k, e, ey, l⟩ | ⟨kvs, k, b, e, ey, eb, l⟩
  · subst ey
    obtain ⟨z, hd, vs, rel, dd⟩ := dk_rd I.hok e
    refine wpAny_in_of (kV_is ry) hd dd.mapOf ?_
    rw [← (rel.val k).isSome_eq, ← l]
    exact h _ (I.tok _)
  · subst ey
    cases (show u = Value.ref b from ry)
    obtain ⟨z, hd, xs, rel, dd⟩ := dt_rd I.hok e
    refine wpAny_in_heap (tupleKind_room_in1 hu) (key_of I.hok eb) hd dd ?_
    have q := (rel.val k).isSome_eq
    rw [Option.isSome_map] at q
    rw [← q, ← l]
    exact h _ (I.tok _)
theorem d_notIn {Q : Value → Shared → Prop} (hu : A.units + 1 < cLine) (I : Inv X pins σ H s) (g : DGet H a y o) (ry : RelV y u) (h : ∀ s', Inv X pins σ H s' → Q (.bool (!o.isSome)) s') :
    wpAny (model X.prog X.w) A (compareOp .NotIn u (.ref a)) Q E s := by
  rcases g with ⟨kvs, k, e, ey, l⟩ | ⟨kvs, k, b, e, ey, eb, l⟩
  · subst ey
    obtain ⟨z, hd, vs, rel, dd⟩ := dk_rd I.hok e
    refine wpAny_notIn_of (kV_is ry) hd dd.mapOf ?_
    rw [← (rel.val k).isSome_eq, ← l]
    exact h _ (I.tok _)
  · subst ey
    cases (show u = Value.ref b from ry)
    obtain ⟨z, hd, xs, rel, dd⟩ := dt_rd I.hok e
    refine wpAny_notIn_heap (tupleKind_room_in1 hu) (key_of I.hok eb) hd dd ?_
    have q := (rel.val k).isSome_eq
    rw [Option.isSome_map] at q
    rw [← q, ← l]
    exact h _ (I.tok _)
/-- a dict's object is replaced -/
theorem d_write {h' : Heap} {t' : Nat} {ob : HO} (I : Inv X pins σ H s) (mu : Mut (H a)) (hs : Heap.SameBut a s.heap h') (he : ∃ q, h'.get? a = some q) (new : ObjOk X.prog X.w (upd H a ob) h' a ob) :
    Inv X pins σ (upd H a ob) { s with heap := h', toks := t' } :=
  I.write (x := a) (e := a) mu (.inl rfl) (fun b q hb z => (hs.2 b hb).trans z) he new
theorem dk_new {P : Program} {w : World} {H' : Hp} {h' : Heap} {kvs : List (Key × V)} {vs : List (Key × Value)} (z : kvs.length ≤ sizeLine) (hd : (a == sysModules) = false) (rel : KV kvs vs) (dd : h'.DictOf (mixKind P w) a vs) :
    ObjOk P w H' h' a (.dK kvs) := ⟨z, hd, vs, rel, dd⟩
/-- d[y] = v -/
theorem d_setItem {H' : Hp} {Q : Unit → Shared → Prop} (hu : A.units + 1 < cLine) (I : Inv X pins σ H s) (g : DPut H a y v H') (ry : RelV y u) (rv : RelV v r) (h : ∀ s', Inv X pins σ H' s' → Q () s') :
    wpAny (model X.prog X.w) A (setItem (.ref a) u r) Q E s := by
  rcases g with ⟨kvs, k, e, ey, l, eH⟩ | ⟨kvs, k, b, e, ey, eb, l, eH⟩
  · subst ey eH
    obtain ⟨z, hd, vs, rel, dd⟩ := dk_of I.hok e
    have hz : vs.length ≤ sizeLine := by rw [← rel.length]; exact z
    have hl : (putK kvs k v).length ≤ sizeLine := by have := length_putK kvs k v; omega
    refine wpAny_setItem_pairs (hsz := hz) (kV_is ry) dd fun h' dd' hs => h _ ?_
    have he : ∃ q, h'.get? a = some q := let ⟨q, _, _, hq, _⟩ := dd'; ⟨q, hq⟩
    exact d_write I (by rw [e]; exact True.intro) hs he (dk_new hl hd (rel.put k rv) dd')
  · subst ey eH
    cases (show u = Value.ref b from ry)
    obtain ⟨z, hd, xs, rel, dd⟩ := dt_of I.hok e
    have hz : xs.length ≤ sizeLine := by rw [← Paired.length rel]; exact z
    have hl : (putK kvs k v).length ≤ sizeLine := by have := length_putK kvs k v; omega
    refine wpAny_setItem_heap (hsz := hz) (tupleKind_room_in1 hu) (key_of I.hok eb) dd fun h' dd' hs => h _ ?_
    obtain ⟨q, es, ep, hq, h2, h3, h4, _, h5⟩ := dd'
    refine d_write I (by rw [e]; exact True.intro) hs ⟨q, hq⟩ ⟨hl, hd, _, (rel.put k eb rv).keeps fun c ys ec => ?_, q, es, ep, hq, h2, h3, h4, h5⟩
    rw [upd_ne (ne_of ec e (fun z => nomatch z))]
    exact ec
end

section
variable {X : Cx} {pins : List (Addr × Obj)} {σ : St} {H : Hp} {s : Shared} {a : Addr} {kvs : List (Key × V)} {k : Key} {u : Value} {A : Around} {E : Value → Shared → Prop}
end


/-! ### readings and rules -/
/-- the element of a subscription, not a slice -/
noncomputable def NoSl (i : Expr) : Prop := ∀ ov iv, subscripted i false ov iv = operate [ov, iv] (getItem ov iv)
theorem subD_of {prog : Program} {w : World} {A : Around} {E : Value → Shared → Prop} {s : Shared} {env : Env} {value slice : Expr} {pos : Pos} {T id : String} {Q : Value → Shared → Prop}
    (hl : typeLookup (.type T) "__getitem__" = pure (some (.builtin id))) (hs : NoSl slice)
    (h : wpAny (model prog w) A (eval value env) (fun o s₁ => wpAny (model prog w) A (eval slice env) (fun i s₂ => s₂.TypeIs o T ∧ wpAny (model prog w) A (getItem o i) Q E s₂) E s₁) E s) :
    wpAny (model prog w) A (eval (.Subscript value slice pos) env) Q E s := by
  refine Subscript_ (wpAny_mono h (fun o s₁ h₁ => wpAny_mono h₁ (fun i s₂ h₂ => ?_) fun _ _ x => x) fun _ _ x => x)
  obtain ⟨hT, h₂⟩ := h₂
  unfold subscriptTail
  refine wpAny_bind ?_
  rw [getitemInPython_of_ne hT.not_modules]
  refine wpAny_bind (wpAny_specialOf hT hl ?_)
  have fin : wpAny (model prog w) A (subscripted slice false o i) (fun r s₃ => wpAny (model prog w) A (letTemporaryGo value o r >>= fun _ => pure r) Q E s₃) E s₂ := by
    rw [hs o i]
    exact wpAny_operating (wpAny_mono h₂ (fun r s₃ h₃ => wpAny_bind (wpAny_letTemporaryGo (wpAny_pure h₃))) fun _ _ x => x)
  first
    | exact wpAny_pure (wpAny_bind fin)
    | exact wpAny_bind (wpAny_pure (wpAny_bind fin))
    | exact wpAny_bind fin

theorem dict_typeIs {X : Cx} {pins : List (Addr × Obj)} {σ : St} {H : Hp} {s : Shared} {a : Addr} {y : V} {o : Option V} (I : Inv X pins σ H s) (g : DGet H a y o) : s.TypeIs (.ref a) "dict" := by
  rcases g with ⟨kvs, k, e, _, _⟩ | ⟨kvs, k, b, e, _, _, _⟩
  · obtain ⟨_, _, vs, _, dd⟩ := dk_rd I.hok e
    exact dd.typeIs
  · obtain ⟨_, _, xs, _, dd⟩ := dt_rd I.hok e
    exact dd.typeIs

/-- d[y] -/
noncomputable def tDGet (td ty : TE) : TE := fun σ H Q => td σ H fun x H1 => ty σ H1 fun y H2 => ∃ a v, x = .ref a ∧ DGet H2 a y (some v) ∧ Q v H2
/-- y in d, y not in d -/
noncomputable def tDIn (ty td : TE) : TE := fun σ H Q => ty σ H fun y H1 => td σ H1 fun x H2 => ∃ a o, x = .ref a ∧ DGet H2 a y o ∧ Q (.bl o.isSome) H2
noncomputable def tDNotIn (ty td : TE) : TE := fun σ H Q => ty σ H fun y H1 => td σ H1 fun x H2 => ∃ a o, x = .ref a ∧ DGet H2 a y o ∧ Q (.bl (!o.isSome)) H2
/-- d[y] = v -/
noncomputable def sDPut (td ty tv : TE) : TS := fun D σ H => tv σ H fun v H1 => td σ H1 fun x H2 => ty σ H2 fun y H3 => ∃ a H4, x = .ref a ∧ DPut H3 a y v H4 ∧ D.nx σ H4

section
variable {X : Cx} {o i e value : Expr} {pos pos' tpos : Pos} {td ty tv : TE}
theorem pe_dget (hu : X.A.units + 1 < cLine) (ho : PE X o td) (hi : PE X i ty) (hs : NoSl i) : PE X (.Subscript o i pos) (tDGet td ty) := by
  intro pins s σ H Q I h
  refine subD_of PySem.F.slot_dict_getitem.lookup hs (thn (ho pins s σ H _ I h) fun u s1 ⟨x, H1, I1, rx, q1⟩ => thn (hi pins s1 σ H1 _ I1 q1) fun iv s2 ⟨y, H2, I2, ry, a, v, ex, g, q2⟩ => ?_)
  subst ex
  obtain rfl : u = Value.ref a := rx
  exact ⟨dict_typeIs I2 g, d_getItem hu I2 g ry fun w' s3 I3 rw' => ⟨v, H2, I3, rw', q2⟩⟩
theorem pc_din (hu : X.A.units + 1 < cLine) (hi : PE X i ty) (ho : PE X o td) : PC X .In i o (tDIn ty td) := by
  intro pins s σ H Q I h
  refine thn (hi pins s σ H _ I h) fun iv s1 ⟨y, H1, I1, ry, q1⟩ => thn (ho pins s1 σ H1 _ I1 q1) fun u s2 ⟨x, H2, I2, rx, a, ov, ex, g, q2⟩ => ?_
  subst ex
  obtain rfl : u = Value.ref a := rx
  exact d_in hu I2 g ry fun s3 I3 => ⟨.bl ov.isSome, H2, I3, rfl, q2⟩
theorem pc_dnotin (hu : X.A.units + 1 < cLine) (hi : PE X i ty) (ho : PE X o td) : PC X .NotIn i o (tDNotIn ty td) := by
  intro pins s σ H Q I h
  refine thn (hi pins s σ H _ I h) fun iv s1 ⟨y, H1, I1, ry, q1⟩ => thn (ho pins s1 σ H1 _ I1 q1) fun u s2 ⟨x, H2, I2, rx, a, ov, ex, g, q2⟩ => ?_
  subst ex
  obtain rfl : u = Value.ref a := rx
  exact d_notIn hu I2 g ry fun s3 I3 => ⟨.bl (!ov.isSome), H2, I3, rfl, q2⟩
theorem ps_dput (hu : X.A.units + 1 < cLine) (ho : PE X o td) (hi : PE X i ty) (hv : PE X value tv) (hs : swapsWith value (some (.Subscript o i pos')) pos.line X.env = pure false) :
    PS X (.Assign [.Subscript o i pos'] value pos) (sDPut td ty tv) := by
  intro pins s σ H D I h
  refine wpAny_Assign_Subscript (thn (hv pins s σ H _ I h) fun r s1 ⟨v, H1, I1, rv, q1⟩ => thn (ho pins s1 σ H1 _ I1 q1) fun u s2 ⟨x, H2, I2, rx, q2⟩ => thn (hi pins s2 σ H2 _ I2 q2) fun iv s3 ⟨y, H3, I3, ry, a, H4, ex, g, q3⟩ => ?_) hs
  subst ex
  obtain rfl : u = Value.ref a := rx
  exact d_setItem hu I3 g ry rv fun s4 I4 => ⟨σ, H4, I4, q3⟩
end


/-! ### displays -/
theorem dk_empty {P : Program} {w : World} {H : Hp} (h : Heap) (hb : sysModules < h.objs.size) : ObjOk P w H (h.push { cls := .type "dict", data := .dict #[] }) h.objs.size (.dK []) :=
  ⟨Nat.zero_le _, beq_eq_false_iff_ne.mpr (Ne.symm (Nat.ne_of_lt hb)), [], .nil, Heap.DictOf.new h⟩
/-- {}, to be a dict of the kind that is wanted -/
noncomputable def tDNewK : TE := fun _ H Q => ∀ p, H p = none → Q (.ref p) (upd H p (.dK []))
section
variable {X : Cx} {pos : Pos}
theorem pe_dnewK : PE X (.Dict [] [] pos) tDNewK := fun pins s σ H Q I h =>
  wpAny_Dict_empty ⟨.ref s.heap.objs.size, _, I.laid (a := s.heap.objs.size) (o := .dK []) (t' := s.toks) (fun _ _ q => Heap.get?_push_of_some _ q) (Nat.le_refl _) (dk_empty s.heap I.big), rfl, h _ (I.hok.fresh (Nat.le_refl _))⟩
end

/-- the pairs of a display, from the left -/
noncomputable def tPairs : List (TE × TE) → St → Hp → (List (V × V) → Hp → Prop) → Prop
  | [], _, H, Q => Q [] H
  | (tk, tv) :: r, σ, H, Q => tk σ H fun x H1 => tv σ H1 fun y H2 => tPairs r σ H2 fun ps H3 => Q ((x, y) :: ps) H3
noncomputable abbrev VV : List (V × V) → List (Value × Value) → Prop := Paired fun p q => RelV p.1 q.1 ∧ RelV p.2 q.2
noncomputable def PPs (X : Cx) (pos : Pos) (keys : List (Option Expr)) (values : List Expr) (trs : List (TE × TE)) : Prop :=
  ∀ (pins : List (Addr × Obj)) (s : Shared) (σ : St) (H : Hp) (Q : List (V × V) → Hp → Prop), Inv X pins σ H s → tPairs trs σ H Q →
    wpAny (model X.prog X.w) X.A (evalPairs (pairTrees keys values X.env pos)) (fun vs s' => ∃ ps H', Inv X pins σ H' s' ∧ VV ps vs ∧ Q ps H') X.xe s
theorem pps_nil {X : Cx} {pos : Pos} : PPs X pos [] [] [] := fun pins s σ H Q I h => pairTrees_nil_walk ⟨[], H, I, .nil, h⟩
theorem pps_cons {X : Cx} {pos : Pos} {k v : Expr} {ks : List (Option Expr)} {vs : List Expr} {tk tv : TE} {trs : List (TE × TE)} (hk : PE X k tk) (hv : PE X v tv) (hr : PPs X pos ks vs trs) :
    PPs X pos (some k :: ks) (v :: vs) ((tk, tv) :: trs) := fun pins s σ H Q I h =>
  pairTrees_cons_walk (thn (hk pins s σ H _ I h) fun u s1 ⟨x, H1, I1, rx, q1⟩ => thn (hv pins s1 σ H1 _ I1 q1) fun w2 s2 ⟨y, H2, I2, ry, q2⟩ =>
    thn (hr pins s2 σ H2 _ I2 q2) fun ws s3 ⟨ps, H3, I3, rel, q3⟩ => ⟨(x, y) :: ps, H3, I3, .cons ⟨rx, ry⟩ rel, q3⟩)

noncomputable def mergeK (kvs more : List (Key × V)) : List (Key × V) := more.foldl (fun acc kv => putK acc kv.1 kv.2) kvs
theorem KV.merge : ∀ {more : List (Key × V)} {rs : List (Key × Value)} {kvs : List (Key × V)} {vs : List (Key × Value)}, KV more rs → KV kvs vs → KV (mergeK kvs more) (merged vs rs) := by
  intro more rs kvs vs r
  unfold KV at r
  induction r generalizing kvs vs with
  | nil => intro q; exact q
  | @cons p q ps qs h t ih =>
    intro r0
    have e : KV (putK kvs p.1 p.2) (stored vs q.1 q.2) := by
      have := r0.put p.1 h.2
      rw [← h.1]; exact this
    exact ih e
theorem length_mergeK : ∀ (more kvs : List (Key × V)), (mergeK kvs more).length ≤ kvs.length + more.length
  | [], kvs => by show kvs.length ≤ kvs.length + 0; omega
  | p :: r, kvs => by
    have h1 := length_mergeK r (putK kvs p.1 p.2)
    have h2 := length_putK kvs p.1 p.2
    show (mergeK (putK kvs p.1 p.2) r).length ≤ _
    rw [List.length_cons]; omega
theorem carries_of {P : Program} {w : World} : ∀ {kvs : List (Key × V)} {ws : List (Value × Value)}, VV (kvs.map fun kv => (kV kv.1, kv.2)) ws → ∃ rs, Carries (mixKind P w) ws rs ∧ KV kvs rs
  | [], _, r => by rw [List.map_nil] at r; cases r; exact ⟨[], True.intro, .nil⟩
  | p :: kvs, _, r => by
    rw [List.map_cons] at r
    cases r with
    | @cons a b as bs h t =>
      obtain ⟨rs, c, q⟩ := carries_of (P := P) (w := w) t
      obtain ⟨b1, b2⟩ := b
      exact ⟨(p.1, b2) :: rs, ⟨kV_is h.1, rfl, c⟩, .cons ⟨rfl, h.2⟩ q⟩
/-- {k: v, ..} with keys ints and texts; the new dict stands empty while the pairs are made -/
noncomputable def tDisp (trs : List (TE × TE)) : TE := fun σ H Q => ∀ p, H p = none → tPairs trs σ (upd H p (.dK [])) fun ps H2 => H2 p = some (.dK []) ∧ ∃ kvs : List (Key × V), ps = kvs.map (fun kv => (kV kv.1, kv.2)) ∧ kvs.length ≤ 15 ∧ Q (.ref p) (upd H2 p (.dK (mergeK [] kvs)))
theorem pe_disp {X : Cx} {pos : Pos} {keys : List (Option Expr)} {values : List Expr} {trs : List (TE × TE)} (h : PPs X pos keys values trs) (hall : keys.all (·.isSome) = true) (hl : keys.length = values.length) (h0 : keys ≠ [])
    (h15 : keys.length ≤ 15) : PE X (.Dict keys values pos) (tDisp trs) := by
  intro pins s σ H Q I q
  have hn := I.hok.fresh (Nat.le_refl s.heap.objs.size)
  have I1 := I.laid (a := s.heap.objs.size) (o := .dK []) (h' := s.heap.push { cls := .type "dict", data := .dict #[] }) (t' := s.toks) (fun _ _ q => Heap.get?_push_of_some _ q) (Nat.le_refl _) (dk_empty s.heap I.big)
  refine wpAny_Dict_walk (knd := mixKind X.prog X.w) hall hl h0 h15 (thn (h pins _ σ _ _ I1 (q _ hn)) fun ws s2 ⟨ps, H2, I2, rel, e, kvs, ep, lk, q2⟩ => ?_)
  subst ep
  obtain ⟨rs, c, rk⟩ := carries_of (P := X.prog) (w := X.w) rel
  obtain ⟨z, hd, vs0, r0, dd⟩ := dk_of I2.hok e
  cases r0
  refine ⟨rs, c, dd, fun h' dd' hs => ⟨.ref s.heap.objs.size, _, ?_, rfl, q2⟩⟩
  have hz : (mergeK [] kvs).length ≤ sizeLine := by
    have h1 := length_mergeK kvs []
    rw [List.length_nil] at h1
    rw [sizeLine_eq]; omega
  have he : ∃ q, h'.get? s.heap.objs.size = some q := let ⟨q, _, _, hq, _⟩ := dd'; ⟨q, hq⟩
  exact d_write I2 (by rw [e]; exact True.intro) hs he (dk_new hz hd (rk.merge .nil) dd')


/-! ### methods -/


section
variable {X : Cx} {pins : List (Addr × Obj)} {σ : St} {H : Hp} {s : Shared} {a : Addr} {y d : V} {u r : Value} {o : Option V} {A : Around} {E : Value → Shared → Prop}
end

section
variable {X : Cx} {o e f : Expr} {apos cpos : Pos} {td ty tx : TE}
end

/-! ### dict(d): a copy -/
section
variable {X : Cx} {pins : List (Addr × Obj)} {σ : St} {H : Hp} {s : Shared} {a : Addr} {kvs : List (Key × V)} {A : Around} {E : Value → Shared → Prop}
end


section
variable {X : Cx} {pins : List (Addr × Obj)} {σ : St} {H : Hp} {s : Shared} {a : Addr} {y : V} {u : Value} {A : Around} {E : Value → Shared → Prop}
end
end L2

namespace Att
open PySem PySem.W PySem.Calls PyProof.Rows

/-! ### the script -/
theorem ints_of_wellAll {P : Params} {h : Heap} : ∀ (ns : List Int) (vs : List Value), WellAll P h vs (ns.map WData.int) → IntsAre vs ns := by
  intro ns
  induction ns with
  | nil =>
    intro vs w
    rw [List.map_nil] at w
    cases w
    exact .nil
  | cons n ns ih =>
    intro vs w
    rw [List.map_cons] at w
    cases w with
    | cons a b =>
      cases a
      exact .cons _ _ (ih _ b)

theorem script_of {l : OpenLaw} {n : Nat} (hn : l.most = some n) {P : Params} {h : Heap} {args : List WData} {vals : List Value}
    (hpre : l.row.toRowW.claim.pre args = true) (hwl : WellAll P h vals args) :
    ∃ a vs ns, vals = [Value.ref a] ∧ args = [WData.list (ns.map WData.int)] ∧ h.get? a = some { cls := .type "list", data := .seq vs.toArray } ∧ IntsAre vs ns ∧ ns.length ≤ n := by
  have hsh : WShape.hasAll [] args [.list .int] = true := (pre_splitW hpre).1
  have hc : l.pre.holds [] { args := args } = true := (pre_splitW hpre).2
  obtain ⟨d, r, rfl, h1, h2⟩ := hasAllW_cons hsh
  obtain rfl := hasAllW_nil h2
  obtain ⟨xs, rfl, h3⟩ := hasW_list h1
  obtain ⟨ns, rfl⟩ := items_int h3
  have hlen : ns.length ≤ n := by
    unfold OpenLaw.pre at hc
    have h4 : (WTm.not (.lt (.lit (.int (n : Int))) (.len (.arg 0)))).holds [] { args := [.list (ns.map .int)] } = true := by
      have h4 := (holds_andW hc).1
      rw [hn] at h4
      exact h4
    have h5 := condW_of h4 (w_not (w_lt w_lit (w_len_list (w_arg rfl))))
    rw [List.length_map] at h5
    refine Nat.le_of_not_lt fun q => ?_
    have q' : (n : Int) < ((ns.length : Nat) : Int) := by omega
    first
      | (rw [decide_eq_true q'] at h5; exact absurd h5 (by decide))
      | (simp at h5; omega)
  cases hwl with
  | cons w1 w2 =>
    cases w2
    cases w1 with
    | list ho hall => exact ⟨_, _, ns, rfl, rfl, ho, ints_of_wellAll ns _ hall, hlen⟩

theorem post_true (l : OpenLaw) (args : List WData) : l.row.toRowW.claim.post args (.bool true) args = true :=
  postW_of (r := l.row.toRowW) (X := (true == true))
    (show WShape.has [] (.bool true) .bool = true by first | rfl | decide | simp [WShape.has, WShape.arms, WShape.armsAll])
    (show (WTm.eq .res (.lit (.bool true))).value [] { args := args, res := some (.bool true), after := args } = some (.bool (true == true)) from w_eq_bool (w_res rfl) w_lit) rfl

/-! ### the attachment: holds_open's last premise (the goal 'hc' behind k_head) from a wpAny of the law's body -/

/-- the same from a codeAny of the CALL (for a layer whose function contracts speak of calls) -/
theorem attach_call {l : OpenLaw} {n : Nat} {q : Program} {loose : List Str} {XP : (Str → Option Value) → Heap → Prop} {YP : World → Heap → Prop} {d : DefRec}
    (hn : l.most = some n) (hdf : d.params.defaults = [])
    (call : ∀ (w : World) (s₀ s₁ : Shared) (mg mb : Str → Option Value) (fa : Addr) (o : Obj) (pm cd doc : Value) (a : Addr) (vs : List Value) (ns : List Int),
      Ground q loose [] XP w s₀ mg mb s₁.heap → YP w s₁.heap →
      s₁.heap.get? fa = some o → o.data = .func (docDef d.name d.params d.body d.scope pm cd doc) → s₁.heap.CodeRec cd d.name → mg d.name = some (.ref fa) →
      s₁.heap.get? a = some { cls := .type "list", data := .seq vs.toArray } → IntsAre vs ns → ns.length ≤ n → s₁.gens = #[] →
      codeAny (model l.prog w) callerA (.call (.ref fa) ⟨[.ref a], []⟩) (fun r s' => r = .ok (.ret (.bool true)) ∧ OldK s₁.heap s'.heap ∧ s'.os = s₁.os ∧ AllBare s'.gens) s₁) :
    WalkO q loose XP YP l.row.toRowW d [] (fun f vs => PySem.call f vs) := by
  intro w s₀ s₁ mg mb G Y fa o pm cd doc dV kV ho hd hcd hD hmg hg args vals as hpre hlay hrd hwl hlo
  obtain rfl : dV = .none := Dflts.none hD hdf
  obtain rfl : kV = .none := Dflts.noKw hD
  obtain ⟨a, vs, ns, rfl, rfl, hobj, hints, hlen⟩ := script_of hn hpre hwl
  refine enter_call (codeAny_mono (call w s₀ s₁ mg mb fa o pm cd doc a vs ns G Y ho (fd_plain hd) hcd hmg hobj hints hlen hg) fun r s' hq => ?_)
  obtain ⟨rfl, h2, h3, h4⟩ := hq
  exact ⟨.inl ⟨.bool true, .bool true, [], rfl, fun _ => rfl, .bool true, post_true l _, fun _ => ⟨List.Pairwise.nil, fun _ hm => (nomatch hm)⟩⟩, h2, h3, h4⟩


/-! ### rules over ANY heap (no ledger) from facts about the written part K: the library's own take a ledger (News) for what they write -/
section
variable {prog : Program} {w : World} {A : Around} {E : Value → Shared → Prop} {s : Shared} {K : Frag}





/-! the whole heap as the ledger: makes every rule that writes through a ledger a rule over any heap -/

end
end Att

namespace L2
open PySem PySem.Spec PyProof.Rows

theorem vals_ints : ∀ {vs : List Value} {ns : List Int}, IntsAre vs ns → Vals (ns.map V.int) vs
  | _, _, .nil => .nil
  | _, _, .cons n t h => .cons ⟨t, rfl⟩ (vals_ints h)

/-- nothing is tracked but the script, known to the object (or it is an object of the module) -/
noncomputable def Only (H : Hp) : Prop := ∀ b, H b = none ∨ ∃ o xs, H b = some (.frz o (.lst xs))

/-- THE HEAD: the law's promise, at the heap behind the top. F, the promise of the law's def, may use that base is part of the heap (so K.In base, base.Ns mainGlobals mg stand in Mod) -/
theorem law_call {P : Program} {w : World} {K : PySem.W.Frag} {mg mb : Str → Option Value} {CX : CXT} {k : Nat} {fa a : Addr} {fd : FuncData} {x : Str} {sp : Sp} {s₁ : Shared} {vs : List Value} {ns : List Int}
    (KX : K.In s₁.heap) (hns : s₁.heap.Ns mainGlobals mg) (hb : s₁.heap.Ns builtinsNs mb) (hbb : ∀ x : Str, x ≠ "__name__" → mb x = bootBuiltins x) (hlim : s₁.heap.NoLimit) (hg : s₁.gens = #[])
    (ha : s₁.heap.get? a = some { cls := .type "list", data := .seq vs.toArray }) (hi : IntsAre vs ns) (hl : ns.length ≤ sizeLine) (hr : Room k callerA)
    (F : ∀ base : Heap, K.In base → base.Ns mainGlobals mg → FnOk P w K mg base CX k fa fd [x] sp) (hbind : ∀ (s : Shared) (u : Value), BindsTo s fd ⟨[u], []⟩ [(x, u)])
    (hsp : ∀ H : Hp, Only H → SqL K H a (ns.map V.int) → sp [.ref a] H (fun v _ => v = .bl true) fun _ _ _ => False)
    (hCX : ∀ H e s', CX [] H s₁ (fun _ _ _ => False) e s' → False) :
    codeAny (model P w) callerA (.call (.ref fa) ⟨[.ref a], []⟩) (fun r s' => r = .ok (.ret (.bool true)) ∧ OldK s₁.heap s'.heap ∧ s'.os = s₁.os ∧ AllBare s'.gens) s₁ := by
  have rv := vals_ints hi
  have lenV := hi.length
  -- from an abstract heap in which nothing but the script may be tracked
  have core : ∀ H : Hp, Only H → SqL K H a (ns.map V.int) → HOk P w H s₁.heap → (∀ b, H b ≠ none → b = a) → (H a ≠ none → K.lookup a = none) →
      codeAny (model P w) callerA (.call (.ref fa) ⟨[.ref a], []⟩) (fun r s' => r = .ok (.ret (.bool true)) ∧ OldK s₁.heap s'.heap ∧ s'.os = s₁.os ∧ AllBare s'.gens) s₁ := by
    intro H hO hS hok hA hK
    have base_of : ∀ {b : Addr} {o : Obj}, s₁.heap.get? b = some o → H b = none → (hidT s₁.heap H).get? b = some o := fun e n => hidT_get e n
    have noA : ∀ {b : Addr} {o : Obj} {es : Array DictEntry} {ep : Nat}, s₁.heap.get? b = some o → o.data = .dict es ep → H b = none := fun {b o es ep} e d => by
      cases q : H b with
      | none => rfl
      | some u =>
        have e' : b = a := hA b (by rw [q]; simp)
        subst e'
        rw [ha] at e; cases e
        have d' : Data.seq vs.toArray _ = Data.dict es ep := d
        cases d'
    have nsK : ∀ {b : Addr} {m : Str → Option Value}, s₁.heap.Ns b m → (hidT s₁.heap H).Ns b m := fun {b m} ⟨o, es, ep, e, d, r⟩ => ⟨o, es, ep, base_of e (noA e d), d, r⟩
    have hKb : K.In (hidT s₁.heap H) := fun b o e => base_of (KX b o e) (by
      cases q : H b with
      | none => rfl
      | some u =>
        have e' : b = a := hA b (by rw [q]; simp)
        subst e'
        rw [hK (by rw [q]; simp)] at e; cases e)
    have hM : Mod K mg (hidT s₁.heap H) := ⟨hKb, nsK hns, ⟨mb, nsK hb, hbb⟩, let ⟨mc, h1, h2⟩ := hlim; ⟨mc, nsK h1, h2⟩⟩
    have e0 : Env0 P w K mg (hidT s₁.heap H) callerA [] s₁ H := ⟨rfl, hM, fun b o e => of_hidT e, Nat.le_of_eq (hidT_size _ _), trivial, fun b hb => absurd (show b ∈ ([] : List Addr) from hb) (by simp), hok, .of_eq hg⟩
    refine codeAny_mono ((F _ hKb (nsK hns)).run callerA [] s₁ H ⟨[.ref a], []⟩ [.ref a] [.ref a] _ _ hr e0 (hbind s₁ (.ref a)) (.cons rfl .nil) (hsp H hO hS)) fun r s' h => ?_
    cases r with
    | error e => exact (hCX H e s' h).elim
    | ok fl =>
      cases fl with
      | next => exact False.elim h
      | brk => exact False.elim h
      | cont => exact False.elim h
      | ret u =>
        obtain ⟨v, H', os, bare, un, hok', r', q⟩ := h
        have q' : v = .bl true := q
        subst q'
        obtain rfl : u = Value.bool true := r'
        refine ⟨rfl, OldK.of_keep fun b o e => ?_, os, bare⟩
        cases q : H b with
        | none => exact un.keep b o e q (by intro z; exact absurd (show b ∈ ([] : List Addr) from z) (by simp)) (by simp)
        | some u =>
          rcases hO b with z | ⟨ob, xs, z⟩
          · rw [q] at z; cases z
          · have z2 := un.frzs b ob _ z
            obtain ⟨e1, _⟩ := hok b _ z
            obtain ⟨e2, _⟩ := hok' b _ z2
            rw [e] at e1; cases e1
            exact e2
  cases hk : K.lookup a with
  | some o =>
    -- the script is one of the module's own objects
    have e := KX a o hk
    rw [ha] at e
    cases e
    refine core (fun _ => none) (fun _ => .inl rfl) (.inr ⟨_, vs.toArray, _, hk, rfl, rfl, rfl, by rw [List.size_toArray, lenV]; exact hl, by simpa using rv⟩) (fun b u z => by have z' : (none : Option HO) = some u := z; cases z') (fun b z => absurd rfl z) fun z => absurd rfl z
  | none =>
    refine core (fun b => if b = a then some (.frz { cls := .type "list", data := .seq vs.toArray } (.lst (ns.map V.int))) else none) (fun b => ?_) (.inl (.inr ⟨{ cls := .type "list", data := .seq vs.toArray }, if_pos rfl⟩)) (fun b u z => ?_) (fun b z => ?_) fun _ => hk
    · by_cases hb : b = a
      · exact .inr ⟨_, _, if_pos hb⟩
      · exact .inl (if_neg hb)
    · by_cases hb : b = a
      · have z' := (if_pos hb).symm.trans z
        cases z'
        subst hb
        exact ⟨ha, by rw [List.length_map]; exact hl, vs, _, rv, ha⟩
      · have z' := (if_neg hb).symm.trans z
        cases z'
    · by_cases hb : b = a
      · exact hb
      · exact absurd (if_neg hb) z
end L2

namespace L2
open PySem PySem.Spec PyProof.Rows


/-- the goal that k_head leaves (case hc), from the law's promise. F gives the function object fd (K's own) once, then the promise over every base -/
theorem walk_of {l : PySem.W.OpenLaw} {n k : Nat} {q : Program} {loose : List Str} {XP : (Str → Option Value) → Heap → Prop} {YP : World → Heap → Prop} {d : DefRec} {K : Params → PySem.W.Frag} {CX : World → CXT} {sp : World → Sp} {x : Str}
    (hn : l.most = some n) (hn2 : n ≤ sizeLine) (hdf : d.params.defaults = []) (hr : Room k callerA)
    (hY : ∀ (w : World) (h : Heap), YP w h → (K w.params).In h)
    (F : ∀ (w : World) (mg : Str → Option Value) (fa : Addr) (h : Heap), (K w.params).In h → h.Ns mainGlobals mg → mg d.name = some (.ref fa) →
      ∃ fd : FuncData, (∀ (s : Shared) (u : Value), BindsTo s fd ⟨[u], []⟩ [(x, u)]) ∧
        ∀ base : Heap, (K w.params).In base → base.Ns mainGlobals mg → FnOk l.prog w (K w.params) mg base (CX w) k fa fd [x] (sp w))
    (hsp : ∀ (w : World) (H : Hp) (a : Addr) (ns : List Int), ns.length ≤ n → Only H → SqL (K w.params) H a (ns.map V.int) → sp w [.ref a] H (fun v _ => v = .bl true) fun _ _ _ => False)
    (hCX : ∀ (w : World) (H : Hp) (s : Shared) (e : Value) (s' : Shared), CX w [] H s (fun _ _ _ => False) e s' → False) :
    PySem.W.WalkO q loose XP YP l.row.toRowW d [] (fun f vs => PySem.call f vs) := by
  refine Att.attach_call hn hdf fun w s₀ s₁ mg mb fa o pm cd doc a vs ns G Y ho hd hcd hmg hobj hints hlen hg => ?_
  have KX := hY w _ Y
  obtain ⟨fd, hb, hF⟩ := F w mg fa _ KX G.T.g hmg
  exact law_call KX G.T.g G.T.b G.T.builtins G.T.nolimit hg hobj hints (Nat.le_trans hlen hn2) hr hF hb (fun H hO hS => hsp w H a ns hlen hO hS) fun H e s' => hCX w H s₁ e s'
end L2

/- THE LAST THEOREM (shape; LID, My.* are yours):
   My.Adr: a structure of the addresses that your layer names (classes, functions); My.Txt K t: a structure (Prop) of the equations over K;
   My.txt_mk : {K} {implicit addresses ..} (e1 : nsIn K mainGlobals "law" = some (some (.ref f))) (e2 : K.lookup f = some ⟨oc, od, .func (fnOf "law" "law" params body scope dV kV doc pm an cdv ct), sl⟩) (e3 : codeIn K cdv "law" = true) .. : ∃ t, My.Txt K t

theorem PySem.Challenge.cw_LID_holds : PySem.Challenge.rw_LID.Holds := by
  w_on; o_law; k_head; (case hw => w_witness2)
  k_fill
  refine L2.walk_of (l := PySem.Challenge.rw_LID) (n := 63) (k := 40) (x := "script") (CX := fun w => ..) (sp := fun _ => My.sp_law) rfl (by decide) rfl ⟨rfl, by decide, by decide⟩ (fun w h Y => PySem.W.kIn_of Y) ?F ?S ?C
  case F =>
    intro w mg fa h KX G hmg
    have T : ∃ t, My.Txt (L2.KOf KX) t := by
      dsimp only [L2.KOf]                          -- K must stand as «<heap const> w.params» for k_is
      refine' My.txt_mk ?e1 ?e2 ?e3 ..
      (case e1 => PySem.W.k_is)                    -- in the order: a name -> its address -> its object -> its parts
      (case e2 => PySem.W.k_is)
      ..
    obtain ⟨t, T⟩ := T
    have e0 := hmg.symm.trans (PySem.W.mg_of KX G T.law)
    cases e0                                       -- fa is the law's own address
    exact ⟨_, fun s u => .of_eq rfl, fun base kb nb => My.law_fn T kb nb⟩     -- if «.of_eq rfl» comes too early: refine' ⟨_, ?b, fun base kb nb => My.law_fn T kb nb⟩; exact fun s u => .of_eq rfl
  case S => exact fun w H a ns hl hO hS => ..
  case C => exact ..
(the tactic k_is has no namespace: write k_is) -/

/-! SHORT WORDS over the layer: a def of the text, its body, what a loop and a test want. -/
namespace L2
open PySem PySem.Spec PyProof.Rows

/-! ### the text by places -/
noncomputable def defArgs (s : Stmt) : Arguments := match s with
  | .FunctionDef _ a _ _ _ _ _ _ _ _ => a
  | _ => { posonlyargs := [], args := [], vararg := none, kwonlyargs := [], kw_defaults := [], kwarg := none, defaults := [] }
noncomputable def defBody (s : Stmt) : List Stmt := match s with
  | .FunctionDef _ _ b _ _ _ _ _ _ _ => b
  | _ => []
noncomputable def defScope (s : Stmt) : Scope := match s with
  | .FunctionDef _ _ _ _ _ _ sc _ _ _ => sc
  | _ => { kind := .function, names := [], isGenerator := false, isCoroutine := false }

/-! ### no exception leaves a def -/
noncomputable abbrev CX0 : CXT := fun _ _ _ _ _ _ => False
noncomputable abbrev E0 : XK := fun _ _ _ => False
theorem pass0 {X : Cx} : Passes CX0 X E0 := fun _ _ _ _ _ _ _ h => h.elim

/-! ### a def (or method) of the text as it stands behind the top -/
structure Fun (K : PySem.W.Frag) (x qual : Str) (st : Stmt) (f : Addr) (fd : FuncData) : Prop where
  ex : ∃ (oc : Value) (od : Option Addr) (kV doc pm : Value) (an : Option Addr) (cdv ct : Value) (osl : Array (Option Value)),
    fd = PySem.W.fnOf x qual (defArgs st) (defBody st) (defScope st) .none kV doc pm an cdv ct ∧ K.lookup f = some ⟨oc, od, .func fd, osl⟩ ∧ PySem.W.codeIn K cdv qual = true
  kp : PySem.W.keepIn K (.ref f) = true
section
variable {P : Program} {w : World} {K : PySem.W.Frag} {mg : Str → Option Value} {base : Heap}
/-- THE RULE for a def: its body as a term of rules, and the reading of that term -/
theorem Fun.ok {x qual : Str} {st : Stmt} {f : Addr} {fd : FuncData} {N ps : List Str} {k : Nat} {sp : Sp} (F : Fun K x qual st f fd) (S : FnScope N ps (defScope st)) (len : ∀ vs H Q E, sp vs H Q E → vs.length = ps.length)
    (hbody : ∀ (cdv : Value) (A : Around) (outer : List Env) (s : Shared) (H : Hp) (vs : List V) (Q : VK) (E : XK), Room k (A.deeper (envOfC qual (defScope st) s.heap.objs.size f cdv)) → sp vs H Q E →
      ∃ t, PSs (cxOf CX0 P w K mg base N qual (defScope st) f cdv A outer s H E).nox (defBody st) t ∧ t { nx := fun _ H' => Q .non H', rt := Q } (start N vs) H) : FnOk P w K mg base CX0 (k + 1) f fd ps sp := by
  obtain ⟨oc, od, kV, doc, pm, an, cdv, ct, osl, rfl, lk, hcd⟩ := F.ex
  refine fn_of lk hcd S len fun A outer s H vs Q E hr hsp => ?_
  obtain ⟨t, h, q⟩ := hbody cdv A outer s H vs Q E hr hsp
  exact ⟨t, h.nox, q⟩
theorem fun_mk {x qual : Str} {st : Stmt} {f : Addr} {oc : Value} {od an : Option Addr} {osl : Array (Option Value)} {kV doc pm cdv ct : Value} (l : K.lookup f = some ⟨oc, od, .func (PySem.W.fnOf x qual (defArgs st) (defBody st) (defScope st) .none kV doc pm an cdv ct), osl⟩)
    (c : PySem.W.codeIn K cdv qual = true) (k : PySem.W.keepIn K (.ref f) = true) : Fun K x qual st f (PySem.W.fnOf x qual (defArgs st) (defBody st) (defScope st) .none kV doc pm an cdv ct) := ⟨⟨oc, od, kV, doc, pm, an, cdv, ct, osl, rfl, l, c⟩, k⟩
end
theorem hu_of {A : Around} {k : Nat} (hr : Room k A) : A.units + 1 < cLine := Nat.lt_of_le_of_lt (Nat.add_le_add_left (by decide : 1 ≤ 64) _) hr.units
theorem small1000 {n : Nat} (h : n ≤ 1000) : n < sizeLine := Nat.lt_of_le_of_lt h (by decide)

/-! ### expressions in short: the name that stands in the i-th slot -/
section
variable {X : Cx}
end

/-! ### tests -/
theorem ite2 {c A B : Prop} [Decidable c] (h1 : c → A) (h2 : ¬ c → B) : if c then A else B := by
  by_cases h : c
  · rw [if_pos h]
    exact h1 h
  · rw [if_neg h]
    exact h2 h

/-! ### heaps -/
/-- all that was tracked is as it was -/
noncomputable def Same (H H' : Hp) : Prop := ∀ b o, H b = some o → H' b = some o
theorem Same.refl (H : Hp) : Same H H := fun _ _ h => h
theorem Same.trans {H H1 H2 : Hp} (a : Same H H1) (b : Same H1 H2) : Same H H2 := fun c o h => b c o (a c o h)
theorem Same.free {H H' : Hp} (e : Same H H') {l : Addr} (h : H' l = Option.none) : H l = Option.none := by
  cases q : H l with
  | none => rfl
  | some o =>
    rw [e l o q] at h
    cases h

/-! ### a dict's pairs: keys that differ -/
section
variable {κ : Type} [DecidableEq κ]
end
end L2


set_option maxRecDepth 100000
namespace L2
open PySem PySem.Spec PyProof.Rows

/-! ### list comprehensions with one clause -/
/-- the cells that a comprehension's block is handed -/
noncomputable def ccl (sc : Scope) (env : Env) : List (Str × Addr) := (sc.names.filterMap fun p => if p.2 == .free then (env.cells.lookup p.1).map fun c => (p.1, c) else none).reverse

theorem forIn_cells {env : Env} : ∀ (l : List (Str × NameKind)) (acc : List (Str × Addr)), (∀ p ∈ l, p.2 = .free → ∃ c, env.cells.lookup p.1 = some c) →
    (forIn l acc fun (x : Str × NameKind) r => match x with | (name, kind) => (if (kind == NameKind.free) = true then do let a ← cellOf env name; pure (ForInStep.yield ((name, a) :: r)) else pure (ForInStep.yield r) : Sem _)) =
      pure ((l.filterMap fun p => if p.2 == .free then (env.cells.lookup p.1).map fun c => (p.1, c) else none).reverse ++ acc)
  | [], acc, _ => rfl
  | (n, k) :: r, acc, h => by
    rw [List.forIn_cons]
    have hr : ∀ p ∈ r, p.2 = .free → ∃ c, env.cells.lookup p.1 = some c := fun p hp => h p (List.mem_cons_of_mem _ hp)
    by_cases hk : k = .free
    · subst hk
      obtain ⟨c, hc⟩ := h (n, .free) List.mem_cons_self rfl
      have e1 : cellOf env n = pure c := by unfold cellOf; rw [hc]
      simp only [beq_self_eq_true, if_true, e1, pure_bind]
      rw [forIn_cells r _ hr]
      simp [List.filterMap_cons, hc]
    · have hb : (k == NameKind.free) = false := by simpa using hk
      simp only [hb, Bool.false_eq_true, if_false, pure_bind]
      rw [forIn_cells r _ hr]
      simp [List.filterMap_cons, hk]
theorem closure_ccl {sc : Scope} {env : Env} (h : ∀ p ∈ sc.names, p.2 = .free → ∃ c, env.cells.lookup p.1 = some c) : closureFor sc env = pure (ccl sc env) := by
  unfold closureFor
  have q := forIn_cells (env := env) sc.names [] h
  rw [List.append_nil] at q
  unfold ccl
  rw [← q, bind_pure]

theorem lookup_revmap {f : Str → Option Addr} : ∀ (l : List (Str × NameKind)) (x : Str) (c : Addr),
    (l.filterMap fun p => if p.2 == .free then (f p.1).map fun c => (p.1, c) else none).reverse.lookup x = some c → f x = some c := by
  intro l x c h
  have hm := PySem.mem_of_lookup h
  rw [List.mem_reverse, List.mem_filterMap] at hm
  obtain ⟨p, _, e⟩ := hm
  split at e
  · cases q : f p.1 with
    | none => rw [q] at e; cases e
    | some d =>
      rw [q] at e
      simp only [Option.map_some, Option.some.injEq, Prod.mk.injEq] at e
      obtain ⟨e1, e2⟩ := e
      rw [← e1, q, e2]
  · cases e
theorem lookup_some_of_mem {β : Type} : ∀ {l : List (Str × β)} {x : Str} {c : β}, (x, c) ∈ l → ∃ d, l.lookup x = some d
  | [], _, _, h => nomatch h
  | (n, d) :: r, x, c, h => by
    by_cases e : x = n
    · subst e; exact ⟨d, by simp [List.lookup_cons]⟩
    · have hb : (x == n) = false := by simpa using e
      rcases List.mem_cons.mp h with q | q
      · cases q; exact absurd rfl e
      · obtain ⟨d', hd⟩ := lookup_some_of_mem q
        exact ⟨d', by simp [List.lookup_cons, hb, hd]⟩
theorem ccl_sub {sc : Scope} {env : Env} {x : Str} {c : Addr} (h : (ccl sc env).lookup x = some c) : env.cells.lookup x = some c := lookup_revmap (f := fun n => env.cells.lookup n) sc.names x c h
theorem ccl_has {sc : Scope} {env : Env} {x : Str} {c : Addr} (hx : (x, NameKind.free) ∈ sc.names) (hc : env.cells.lookup x = some c) : (ccl sc env).lookup x = some c := by
  have hm : (x, c) ∈ ccl sc env := by
    unfold ccl
    rw [List.mem_reverse, List.mem_filterMap]
    exact ⟨(x, .free), hx, by simp [hc]⟩
  obtain ⟨d, hd⟩ := lookup_some_of_mem hm
  have := ccl_sub hd
  rw [hc] at this
  rw [hd, this]

theorem relabel_cases {env : Env} : ∀ {names : List (Str × NameKind)} {x : Str} {k : NameKind},
    (names.map fun (n, k) => if (k == NameKind.free && env.scope.kind == .function && env.kindOf n == some .cell) then (n, NameKind.cell) else (n, k)).lookup x = some k →
    names.lookup x = some k ∨ (k = .cell ∧ names.lookup x = some .free)
  | [], _, _, h => by simp at h
  | (n, q) :: r, x, k, h => by
    have ih := @relabel_cases env r x k
    rw [List.map_cons] at h
    cases hx : x == n with
    | true =>
      by_cases hc : (q == NameKind.free && env.scope.kind == .function && env.kindOf n == some .cell) = true
      · simp only [hc, if_true, List.lookup_cons, hx, Option.some.injEq] at h
        have hq : q = .free := by
          have := (Bool.and_eq_true _ _ ▸ (Bool.and_eq_true _ _ ▸ hc).1).1
          simpa using this
        subst hq
        exact .inr ⟨h.symm, by simp [List.lookup_cons, hx]⟩
      · simp only [hc, if_false, List.lookup_cons, hx, Option.some.injEq, Bool.false_eq_true] at h
        subst h
        exact .inl (by simp [List.lookup_cons, hx])
    | false =>
      have h' : (r.map fun (n, k) => if (k == NameKind.free && env.scope.kind == .function && env.kindOf n == some .cell) then (n, NameKind.cell) else (n, k)).lookup x = some k := by
        by_cases hc : (q == NameKind.free && env.scope.kind == .function && env.kindOf n == some .cell) = true
        · simpa only [hc, if_true, List.lookup_cons, hx] using h
        · simpa only [hc, if_false, List.lookup_cons, hx, Bool.false_eq_true] using h
      rcases ih h' with z | ⟨z1, z2⟩
      · exact .inl (by simp [List.lookup_cons, hx, z])
      · exact .inr ⟨z1, by simp [List.lookup_cons, hx, z2]⟩
theorem relabel_free {env : Env} : ∀ {names : List (Str × NameKind)} {x : Str}, names.lookup x = some .free →
    (names.map fun (n, k) => if (k == NameKind.free && env.scope.kind == .function && env.kindOf n == some .cell) then (n, NameKind.cell) else (n, k)).lookup x = some .cell ∨
    (names.map fun (n, k) => if (k == NameKind.free && env.scope.kind == .function && env.kindOf n == some .cell) then (n, NameKind.cell) else (n, k)).lookup x = some .free
  | [], _, h => by simp at h
  | (n, q) :: r, x, h => by
    have ih := @relabel_free env r x
    rw [List.map_cons]
    cases hx : x == n with
    | true =>
      simp only [List.lookup_cons, hx, Option.some.injEq] at h
      subst h
      by_cases hc : (NameKind.free == NameKind.free && env.scope.kind == .function && env.kindOf n == some .cell) = true
      · exact .inl (by simp only [hc, if_true, List.lookup_cons, hx])
      · exact .inr (by simp only [hc, if_false, List.lookup_cons, hx, Bool.false_eq_true])
    | false =>
      simp only [List.lookup_cons, hx] at h
      by_cases hc : (q == NameKind.free && env.scope.kind == .function && env.kindOf n == some .cell) = true
      · simpa only [hc, if_true, List.lookup_cons, hx] using ih h
      · simpa only [hc, if_false, List.lookup_cons, hx, Bool.false_eq_true] using ih h

/-- the block's context -/
noncomputable def cxComp (X : Cx) (N : List Str) (sc : Scope) (pins : List (Addr × Obj)) (C : Addr) (s₀ : Shared) (H₀ : Hp) (fp : List Addr) : Cx :=
  { X with N := N, s₀ := s₀, H₀ := H₀, env := compEnvC sc (ccl sc X.env) C X.env, outer := X.stack, ex := fp, fn := fun _ => false, pn := X.pn ++ pins, xe := fun _ _ => False }

/-- the scope of a comprehension: n own names, then the free ones; fr: their places among the names around -/
structure CScope (X : Cx) (n : Nat) (fr : List Nat) (N : List Str) (sc : Scope) : Prop where
  kind : sc.kind = .function
  nocell : ∀ p ∈ sc.names, p.2 ≠ .cell
  own : ∀ p ∈ sc.names, p.2 = .local → sc.names.lookup p.1 = some .local
  out : ∀ p ∈ sc.names, p.2 = .free → X.env.kindOf p.1 = some .cell ∨ X.env.kindOf p.1 = some .free
  len : N.length = n + fr.length
  free : ∀ i x, N[n + i]? = some x → (x, NameKind.free) ∈ sc.names ∧ sc.names.lookup x = some .free ∧ ∃ j, fr[i]? = some j ∧ X.N[j]? = some x
/-- .. by what is written (CScope0) -/
noncomputable def CS0 (scX : Scope) (NX : List Str) (n : Nat) (fr : List Nat) (N : List Str) (sc : Scope) : Prop :=
  sc.kind = .function ∧ (∀ p ∈ sc.names, p.2 ≠ .cell) ∧ (∀ p ∈ sc.names, p.2 = .local → sc.names.lookup p.1 = some .local) ∧
  (∀ p ∈ sc.names, p.2 = .free → scX.names.lookup p.1 = some .cell ∨ scX.names.lookup p.1 = some .free) ∧ N.length = n + fr.length ∧
  (∀ x ∈ N.drop n, (x, NameKind.free) ∈ sc.names ∧ sc.names.lookup x = some .free) ∧ (N.drop n).map some = fr.map fun j => NX[j]?
instance {scX : Scope} {NX : List Str} {n : Nat} {fr : List Nat} {N : List Str} {sc : Scope} : Decidable (CS0 scX NX n fr N sc) := by unfold CS0; exact inferInstance
theorem cs_mk {X : Cx} {scX : Scope} {NX : List Str} {n : Nat} {fr : List Nat} {N : List Str} {sc : Scope} (h1 : X.env.scope = scX) (h2 : X.N = NX) (h : CS0 scX NX n fr N sc) : CScope X n fr N sc := by
  obtain ⟨a, b, c, d, e, f, g⟩ := h
  refine ⟨a, b, c, fun p hp z => ?_, e, fun i x hx => ?_⟩
  · have q := d p hp z
    rw [← h1] at q
    exact q
  · have hd : (N.drop n)[i]? = some x := by rw [List.getElem?_drop]; exact hx
    obtain ⟨f1, f2⟩ := f x (List.mem_of_getElem? hd)
    refine ⟨f1, f2, ?_⟩
    have q : ((N.drop n).map some)[i]? = some (some x) := by rw [List.getElem?_map, hd]; rfl
    rw [g, List.getElem?_map] at q
    cases z : fr[i]? with
    | none => rw [z] at q; cases q
    | some j =>
      rw [z] at q
      refine ⟨j, rfl, ?_⟩
      rw [h2]
      exact Option.some.inj q
noncomputable def cst (n : Nat) (fr : List Nat) (σ : St) : St := List.replicate n none ++ fr.map fun j => (σ[j]?).getD none

theorem closure_ok {X : Cx} {n : Nat} {fr : List Nat} {N : List Str} {sc : Scope} (S : CScope X n fr N sc) (ok : X.Ok) : closureFor sc X.env = pure (ccl sc X.env) :=
  closure_ccl fun p hp e => ok.has p.1 (S.out p hp e)

section
variable {X : Cx} {n : Nat} {fr : List Nat} {N : List Str} {sc : Scope} {pins : List (Addr × Obj)} {σ : St} {H : Hp} {s : Shared} {fp : List Addr} {h₁ : Heap} {tk : Nat}

theorem comp_start (S : CScope X n fr N sc) (I : Inv X pins σ H s) (hf : ∀ b ∈ fp, FpOk X pins H b) (hlt : ∀ b ∈ fp, b < s.heap.objs.size)
    (hn : h₁.Ns s.heap.objs.size (fun _ => none)) (hk : ∀ b o, s.heap.get? b = some o → h₁.get? b = some o) :
    Inv (cxComp X N sc pins s.heap.objs.size s H fp) [] (cst n fr σ) H { s with heap := h₁, toks := tk } := by
  have hsub : ∀ b ∈ frs X.stack, b ∈ X.env.locals :: X.fs := I.stkSub
  refine ⟨⟨I.ok.mod, ?_, I.ok.glob, I.ok.blt, Nat.le_refl _, fun x y c h1 h2 => ?_, fun x hx => ?_, fun x c z => (by cases z), I.ok.hd, I.ok.frames, .inl rfl, fun b hb => ⟨?_, fun x c e => ?_⟩, fun b o e => I.bs b o e, Nat.le_trans I.ok.bsz I.sz, fun b o e hb => ?_, fun b hb hz => ?_, I.stack, I.stkFree⟩,
    rfl, I.bare, Un.kept hk, ⟨_, hn, fun i x v e1 e2 e3 => ?_⟩, fun x c e => ?_, I.hok.fresh (Nat.le_refl _), fun x c e => ?_, fun p hp => ?_, I.hok.kept hk, ?_⟩
  · exact S.kind
  · exact I.ok.inj x y c (ccl_sub h1) (ccl_sub h2)
  · have hx' : (relabel sc X.env).names.lookup x = some .cell ∨ (relabel sc X.env).names.lookup x = some .free := hx
    have fr' : sc.names.lookup x = some .free := by
      rcases hx' with z | z
      · rcases relabel_cases z with q | ⟨_, q⟩
        · exact absurd rfl (S.nocell _ (PySem.mem_of_lookup q))
        · exact q
      · rcases relabel_cases z with q | ⟨q, _⟩
        · exact q
        · cases q
    obtain ⟨c, hc⟩ := I.ok.has x (S.out _ (PySem.mem_of_lookup fr') rfl)
    exact ⟨c, ccl_has (PySem.mem_of_lookup fr') hc⟩
  · exact Nat.ne_of_lt (hlt b hb)
  · exact (hf b hb).2.2.2.2.1 x c (ccl_sub e)
  · rcases (hf b hb).2.2.2.1 with z | z
    · exact I.ok.noex b o e z
    · exact absurd (Nat.lt_of_lt_of_le (Heap.lt_size e) (Nat.le_trans I.ok.bsz z)) (Nat.lt_irrefl _)
  · rcases List.mem_cons.mp (hsub b hz) with z | z
    · exact (hf b hb).2.1 z
    · exact (hf b hb).2.2.1 z
  · have e1' : N[i]? = some x := e1
    have hi : n ≤ i := by
      apply Nat.le_of_not_lt
      intro hlt
      unfold cst at e2
      rw [List.getElem?_append_left (by simpa using hlt), List.getElem?_replicate] at e2
      split at e2 <;> cases e2
    obtain ⟨j, rfl⟩ : ∃ j, i = n + j := ⟨i - n, by omega⟩
    obtain ⟨hm, hl, q, hq, hX⟩ := S.free j x e1'
    have e2' : (σ[q]?).getD none = some v := by
      unfold cst at e2
      rw [List.getElem?_append_right (by simp)] at e2
      simp only [List.length_replicate, Nat.add_sub_cancel_left, List.getElem?_map, hq, Option.map_some, Option.some.injEq] at e2
      exact e2
    have hσ : σ[q]? = some (some v) := by
      cases z : σ[q]? with
      | none => rw [z] at e2'; cases e2'
      | some w => rw [z] at e2'; simp only [Option.getD_some] at e2'; rw [e2']
    have ko := S.out _ hm rfl
    have hv : Vis X.env.scope x := by
      rcases ko with z | z
      · exact .inr (.inl z)
      · exact .inr (.inr z)
    obtain ⟨m, _, hloc⟩ := I.loc
    obtain ⟨u, r, l⟩ := hloc q x v hX hσ hv
    refine ⟨u, r, .inr ⟨?_, ?_⟩⟩
    · exact relabel_free hl
    · rcases l with ⟨k, _⟩ | ⟨_, c, hc, hcell⟩
      · rcases ko with z | z <;> (rw [k] at z; cases z)
      · refine ⟨c, ccl_has hm hc, ?_⟩
        obtain ⟨o, ho, hd⟩ := hcell
        exact ⟨o, hk c o ho, hd⟩
  · obtain ⟨v, o, ho, hd⟩ := I.cell x c (ccl_sub e)
    exact ⟨v, o, hk c o ho, hd⟩
  · exact I.freeC x c (ccl_sub e)
  · have hp' : p ∈ X.pn ++ pins := by
      have z : p ∈ (X.pn ++ pins) ++ [] := hp
      rwa [List.append_nil] at z
    obtain ⟨e, hn', ne, nf, d⟩ := I.pin p hp'
    refine ⟨hk p.1 p.2 e, hn', Nat.ne_of_lt (Heap.lt_size e), fun hz => ?_, d⟩
    rcases List.mem_cons.mp (hsub p.1 hz) with z | z
    · exact ne z
    · exact nf z
  · show (cst n fr σ).length = N.length
    unfold cst
    rw [List.length_append, List.length_replicate, List.length_map, S.len]

/-- back from the block -/
theorem comp_back {C : Addr} {σ' : St} {H' : Hp} {s' : Shared} {pins' : List (Addr × Obj)} (I : Inv X pins σ H s) (hf : ∀ b ∈ fp, FpOk X pins H b) (J : Inv (cxComp X N sc pins C s H fp) pins' σ' H' s') : Inv X pins σ H' s' :=
  I.call' (ch := fp) J.os J.base J.hok J.bare fun b hb => ⟨(hf b hb).2.2.2.1, (hf b hb).2.1, (hf b hb).2.2.2.2.1, (hf b hb).2.2.2.2.2⟩
end

/-- the clause's tests -/
noncomputable def PIfs (X : Cx) (ifs : List Expr) (t : TT) : Prop :=
  ∀ (pins : List (Addr × Obj)) (s : Shared) (σ : St) (H : Hp) (Q : Bool → Hp → Prop), Inv X pins σ H s → t σ H Q →
    wpAny (model X.prog X.w) X.A (forIn ifs true fun c r => if r = true then do let ok ← isTrue c X.env (eval c X.env); pure (ForInStep.yield ok) else pure (ForInStep.yield r)) (TP X pins σ Q) X.xe s
noncomputable def tTrue : TT := fun _ H Q => Q true H
theorem pifs_nil {X : Cx} : PIfs X [] tTrue := fun _ _ _ H _ I h => wpAny_pure ⟨H, I, h⟩
theorem pifs_one {X : Cx} {c : Expr} {t : TT} (hc : PT X c t) : PIfs X [c] t := by
  intro pins s σ H Q I h
  rw [List.forIn_cons]
  refine wpAny_bind ?_
  rw [if_pos rfl]
  refine wpAny_bind (thn (hc pins s σ H Q I h) fun b s1 q => wpAny_pure ?_)
  exact wpAny_pure q

/-- the turns of a comprehension that fills the list at D, from the names σ and the heap H on -/
noncomputable def CompW (J : It) (g : TG) (tc : TT) (te : TE) (D : Addr) (σ : St) (H : Hp) (Q : VK) : Prop :=
  ∃ W : Nat → Nat → St → Hp → Prop, (∃ m, W 0 m σ H) ∧ ∀ i m σ' H', W i m σ' H' →
    (J.stop i H' ∧ Q (.ref D) H') ∨ (J.go i H' ∧ ∃ N : St → Hp → Prop, (∀ σ3 H3, N σ3 H3 → ∃ m', m' < m ∧ W (i + 1) m' σ3 H3) ∧ ∀ x H2, J.yld i H' x H2 → g x σ' H2 fun σ3 H3 => tc σ3 H3 fun b H4 =>
      if b = true then te σ3 H4 fun y H5 => ∃ ys, H5 D = some (.lst ys) ∧ ys.length < sizeLine ∧ N σ3 (upd H5 D (.lst (ys ++ [y])))
      else N σ3 H4)
/-- a comprehension's reading -/
noncomputable def tComp (wi : TI) (n : Nat) (fr : List Nat) (g : TG) (tc : TT) (te : TE) : TE := fun σ H Q => wi σ H fun J H1 => ∀ D, H1 D = none → CompW J g tc te D (cst n fr σ) (upd H1 D (.lst [])) Q

section
variable {X : Cx} {n : Nat} {fr : List Nat} {N : List Str} {sc : Scope} {elt tg iter : Expr} {ifs : List Expr} {pos : Pos} {wi : TI} {g : TG} {tc : TT} {te : TE}

theorem comp_run {pins : List (Addr × Obj)} {σ : St} {H : Hp} {s : Shared} {fp : List Addr} {it : Addr} {tn : Nat → Heap → Prop} {J : It} {Q : VK} {E : Value → Shared → Prop} {RR : Value → Addr → Result → Shared → Prop}
    (hc : X.calm = true) (S : CScope X n fr N sc)
    (hg : ∀ C s₀ H₀ fp, PG (cxComp X N sc pins C s₀ H₀ fp) tg g) (hi : ∀ C s₀ H₀ fp, PIfs (cxComp X N sc pins C s₀ H₀ fp) ifs tc) (he : ∀ C s₀ H₀ fp, PE (cxComp X N sc pins C s₀ H₀ fp) elt te)
    (I : Inv X pins σ H s) (T : Turn X.prog X.w X.K tg J fp it tn) (st : tn 0 s.heap) (hf : ∀ b ∈ fp, FpOk X pins H b)
    (h : ∀ D, H D = none → CompW J g tc te D (cst n fr σ) (upd H D (.lst [])) Q)
    (hR : ∀ D C H' s', Inv X pins σ H' s' → FpOk X pins H' C → (∃ m, s'.heap.Ns C m) → Q (.ref D) H' → RR (.ref D) C (.ok .next) s') :
    wpAny (model X.prog X.w) X.A (newList []) (fun acc s₃ => wpAny (model X.prog X.w) X.A (newFunctionEnv sc X.env.globals (ccl sc X.env) [] X.env.qual none .none (some X.env)) (fun cenv s₄ =>
      codeAny (model X.prog X.w) X.A (.compStart (.ListComp elt [⟨tg, iter, ifs, 0⟩] sc pos) 0 (.ref it) acc { cenv with scope := relabel sc X.env }) (RR acc cenv.locals) s₄) E s₃) E s := by
  have hfree : H s.heap.objs.size = none := I.hok.fresh (Nat.le_refl _)
  have hltf : ∀ b ∈ fp, b < s.heap.objs.size := fun b hb => by
    obtain ⟨o, e, _⟩ := T.obj 0 s.heap st b hb
    exact Heap.lt_size e
  obtain ⟨W, ⟨m0, w0⟩, turn⟩ := h s.heap.objs.size hfree
  refine wpAny_newObj_type (wpAny_newFunctionEnv S.nocell (by intro y hy; simp at hy) (fun h₁ hns₁ hsb₁ => ?_) S.kind)
  dsimp only at hns₁ hsb₁ ⊢
  have I3 : Inv X pins σ (upd H s.heap.objs.size (.lst [])) { s with heap := s.heap.push { cls := .type "list", dict := none, data := .seq ([] : List Value).toArray } } :=
    I.laid (t' := s.toks) (fun b u e => Heap.get?_push_of_some _ e) (Nat.le_refl _) ⟨Nat.zero_le _, [], 0, .nil, Heap.get?_push_size _ rfl⟩
  have hf3 : ∀ b ∈ fp, FpOk X pins (upd H s.heap.objs.size (.lst [])) b := fun b hb => ⟨by rw [upd_ne (Nat.ne_of_lt (hltf b hb))]; exact (hf b hb).1, (hf b hb).2⟩
  generalize hs3 : ({ s with heap := s.heap.push { cls := .type "list", dict := none, data := .seq ([] : List Value).toArray } } : Shared) = s3 at *
  have e3 : s3.heap = s.heap.push { cls := .type "list", dict := none, data := .seq ([] : List Value).toArray } := by rw [← hs3]
  have et : s3.toks = s.toks := by rw [← hs3]
  have hlt3 : ∀ b ∈ fp, b < s3.heap.objs.size := fun b hb => by rw [e3, Heap.size_push]; exact Nat.lt_succ_of_lt (hltf b hb)
  have hk3 : ∀ b o, s3.heap.get? b = some o → h₁.get? b = some o := fun b o e => hsb₁.extBut b o (by rw [← e3]; exact Nat.ne_of_lt (Heap.lt_size e)) (by rw [← e3]; exact Heap.get?_push_of_some _ e)
  have hns3 : h₁.Ns s3.heap.objs.size (fun _ => none) := by rw [e3]; exact hns₁
  have I4 := comp_start (tk := s.toks + ([] : List (Str × Value)).length) S I3 hf3 hlt3 hns3 hk3
  have hDk : ∀ b o, s.heap.get? b = some o → h₁.get? b = some o := fun b o e => hk3 b o (by rw [e3]; exact Heap.get?_push_of_some _ e)
  have st4 : tn 0 h₁ := T.keep 0 s.heap h₁ st fun b hb o e => hDk b o e
  have hfX : ∀ {H' : Hp}, (∀ b ∈ fp, H' b = none) → ∀ b ∈ fp, FpOk (cxComp X N sc pins s3.heap.objs.size s3 (upd H s.heap.objs.size (.lst [])) fp) [] H' b := fun {H'} hn b hb => by
    refine ⟨hn b hb, Nat.ne_of_lt (hlt3 b hb), fun z => ?_, .inl hb, fun x c e => (hf3 b hb).2.2.2.2.1 x c (ccl_sub e), fun p hp => ?_⟩
    · rcases List.mem_cons.mp (I3.stkSub b z) with q | q
      · exact (hf3 b hb).2.1 q
      · exact (hf3 b hb).2.2.1 q
    · have hp' : p ∈ (X.pn ++ pins) ++ [] := hp
      rw [List.append_nil] at hp'
      exact (hf3 b hb).2.2.2.2.2 p hp'
  have loop : ∀ s₄ : Shared, s₄ = { s3 with heap := h₁, toks := s.toks + ([] : List (Str × Value)).length } →
      codeAny (model X.prog X.w) X.A (.compLoop (.ListComp elt [⟨tg, iter, ifs, 0⟩] sc pos) 0 (.ref it) (.ref s.heap.objs.size) (compEnvC sc (ccl sc X.env) s3.heap.objs.size X.env)) (RR (.ref s.heap.objs.size) s3.heap.objs.size) s₄ := by
    rintro s₄ rfl
    refine codeAny_loop rfl (fun k s' => ∃ i σ' H', Inv (cxComp X N sc pins s3.heap.objs.size s3 (upd H s.heap.objs.size (.lst [])) fp) [] σ' H' s' ∧ tn i s'.heap ∧ (∀ b ∈ fp, H' b = none) ∧ W i k σ' H') ?_ m0
      ⟨0, _, _, I4, st4, fun b hb => (hf3 b hb).1, w0⟩
    rintro k s5 ⟨i, σ5, H5, I5, st5, fr5, w5⟩
    show wpAny _ X.A ((compTurn (.ListComp elt [⟨tg, iter, ifs, 0⟩] sc pos) 0 (.ref it) (.ref s.heap.objs.size) (compEnvC sc (ccl sc X.env) s3.heap.objs.size X.env)).onRaise (fun x => do noteFrame x (compEnvC sc (ccl sc X.env) s3.heap.objs.size X.env); theTreesLotGoes x)) _ _ s5
    refine wpAny_noted ?_
    rw [compTurn_list]
    refine wpAny_bind (wpAny_standAt (wpAny_bind ?_))
    have nev : ∀ {α : Type} {t : Sem α} {Q₁ : α → Shared → Prop} {E₁ : Value → Shared → Prop} {s₁ : Shared}, wpAny (model X.prog X.w) X.A t Q₁ (fun _ _ => False) s₁ → wpAny (model X.prog X.w) X.A t Q₁ E₁ s₁ := fun h => wpAny_noRaise h
    rcases turn i k σ5 H5 w5 with ⟨stop, qn⟩ | ⟨go, Nn, hN, step⟩
    · refine nev (thn (T.done (cxComp X N sc pins s3.heap.objs.size s3 (upd H s.heap.objs.size (.lst [])) fp) rfl rfl rfl hc i [] s5 σ5 H5 (fun _ _ => False) I5 (hfX fr5) st5 stop) fun r s6 ⟨hr, I6⟩ => ?_)
      subst hr
      have B : Inv X pins σ H5 s6 := comp_back I3 hf3 I6
      refine wpAny_pure (hR _ _ H5 s6 B (I3.fpOk (Nat.le_refl _) I6.free) ?_ qn)
      obtain ⟨m, hm, _⟩ := I6.loc
      exact ⟨m, hm⟩
    · refine nev (thn (T.item (cxComp X N sc pins s3.heap.objs.size s3 (upd H s.heap.objs.size (.lst [])) fp) rfl rfl rfl hc i [] s5 σ5 H5 (fun _ _ => False) I5 (hfX fr5) st5 go) fun r s6 ⟨u, hr, h6⟩ => ?_)
      subst hr
      refine wpAny_bind (nev (thn h6 fun _ s7 ⟨x, H7, I7, r7, y7, st7, fr7⟩ => ?_))
      have I7' := I7.pinned (hfX fr7) (T.obj _ _ st7)
      refine wpAny_bind (nev (thn (hg _ _ _ _ _ s7 σ5 H7 x u _ I7' r7 (step x H7 y7)) fun _ s8 ⟨σ8, H8, I8, q8⟩ => ?_))
      refine wpAny_bind (nev (thn (hi _ _ _ _ _ s8 σ8 H8 _ I8 q8) fun b s9 ⟨H9, I9, q9⟩ => ?_))
      have fin : ∀ {s10 : Shared} {H10 : Hp} {m' : Nat}, m' < k → Inv (cxComp X N sc pins s3.heap.objs.size s3 (upd H s.heap.objs.size (.lst [])) fp) ([] ++ pinsAt fp s7.heap) σ8 H10 s10 → W (i + 1) m' σ8 H10 →
          ∃ m, m < k ∧ ∃ i σ' H', Inv (cxComp X N sc pins s3.heap.objs.size s3 (upd H s.heap.objs.size (.lst [])) fp) [] σ' H' s10 ∧ tn i s10.heap ∧ (∀ b ∈ fp, H' b = none) ∧ W i m σ' H' := fun {s10 H10 m'} hm I10 w10 => by
        refine ⟨m', hm, i + 1, σ8, H10, I10.unpinned, T.keep _ _ _ st7 fun b hb o e => (I10.pin (b, o) (List.mem_append_right _ (List.mem_append_right _ (mem_pinsAt hb e)))).1, fun b hb => ?_, w10⟩
        obtain ⟨o, e, d⟩ := T.obj _ _ st7 b hb
        exact (I10.pin (b, o) (List.mem_append_right _ (List.mem_append_right _ (mem_pinsAt hb e)))).2.1
      cases b with
      | false =>
        rw [if_neg Bool.false_ne_true] at q9
        obtain ⟨m', hm, w9⟩ := hN _ _ q9
        exact wpAny_pure ⟨rfl, fin hm I9 w9⟩
      | true =>
        rw [if_pos rfl] at q9
        refine wpAny_bind (wpAny_bind (nev (thn (he _ _ _ _ _ s9 σ8 H9 _ I9 q9) fun v s10 ⟨y, H10, I10, r10, q10⟩ => ?_)))
        obtain ⟨ys, hy, hz, n10⟩ := q10
        obtain ⟨m', hm, w10⟩ := hN _ _ n10
        refine wpAny_bind (nev (thn (mt_append _ s10 σ8 H10 (.ref s.heap.objs.size) [y] (.ref s.heap.objs.size) [v] (fun z H' => H' = upd H10 s.heap.objs.size (.lst (ys ++ [y]))) I10 rfl (.cons r10 .nil) ⟨_, ys, y, rfl, rfl, hy, hz, rfl⟩) fun z s11 ⟨_, H11, I11, _, e11⟩ => ?_))
        subst e11
        exact wpAny_pure (wpAny_pure ⟨rfl, fin hm I11 w10⟩)
  subst hs3
  exact codeAny_compStart_list (loop _ rfl) (T.self _ 0 _ _ _ st4 (loop _ rfl))

theorem pe_comp (hc : X.calm = true) (S : CScope X n fr N sc) (hit : PI X tg iter wi)
    (hg : ∀ pins C s₀ H₀ fp, PG (cxComp X N sc pins C s₀ H₀ fp) tg g) (hi : ∀ pins C s₀ H₀ fp, PIfs (cxComp X N sc pins C s₀ H₀ fp) ifs tc) (he : ∀ pins C s₀ H₀ fp, PE (cxComp X N sc pins C s₀ H₀ fp) elt te)
    (hs : ∀ x, foldedSetIterable iter X.env x = pure x := by intro _; rfl) : PE X (.ListComp elt [⟨tg, iter, ifs, 0⟩] sc pos) (tComp wi n fr g tc te) := by
  intro pins s σ H Q I h
  rw [eval_ListComp]
  refine wpAny_comprehension_free (use := none) rfl hs (closure_ok S I.ok) S.kind S.own ?_
  refine thn (hit pins s σ H _ I h) fun v s1 h1 => thn h1 fun itv s2 h2 => ?_
  obtain ⟨it, fp, tn, J, H2, e, I2, T, st2, f2, q2⟩ := h2
  subst e
  refine comp_run (RR := fun acc C => compPost (model X.prog X.w) X.A X.xe none (EP X pins σ Q) acc C) hc S (hg pins) (hi pins) (he pins) I2 T st2 f2 q2 fun D C H' s' I' fC hm q => ?_
  obtain ⟨m, hm⟩ := hm
  refine ⟨m, hm, fun h' hs' => ⟨.ref D, H', I'.turned (t' := s'.toks) (fun b o hb e => (hs'.2 b hb).trans e) fC.1 fC.2.1 fC.2.2.2.1 fC.2.2.2.2.1 fC.2.2.2.2.2, rfl, q⟩⟩

/-- name = [..] -/
theorem ps_setcomp {i : Nat} {x : Str} {pos' spos : Pos} (hc : X.calm = true) (hN : X.N.Nodup) (hi' : X.N[i]? = some x) (hx : Loc X.env.scope x) (S : CScope X n fr N sc) (hit : PI X tg iter wi)
    (hg : ∀ pins C s₀ H₀ fp, PG (cxComp X N sc pins C s₀ H₀ fp) tg g) (hi : ∀ pins C s₀ H₀ fp, PIfs (cxComp X N sc pins C s₀ H₀ fp) ifs tc) (he : ∀ pins C s₀ H₀ fp, PE (cxComp X N sc pins C s₀ H₀ fp) elt te)
    (hsw : swapsWith (.ListComp elt [⟨tg, iter, ifs, 0⟩] sc pos) (some (.Name x pos')) spos.line X.env = pure true)
    (hs : ∀ x, foldedSetIterable iter X.env x = pure x := by intro _; rfl) (hf : X.fn x = true ∨ X.env.scope.names.lookup x = some .local := by first | exact .inl rfl | exact .inr rfl | assumption) :
    PS X (.Assign [.Name x pos'] (.ListComp elt [⟨tg, iter, ifs, 0⟩] sc pos) spos) (tAsg (tComp wi n fr g tc te) (gName i)) := by
  intro pins s σ H D I h
  rw [exec_Assign_Name_used _ _ _ _ hsw]
  refine wpAny_bind (wpAny_standAt (wpAny_bind ?_))
  show wpAny _ X.A (do let _ ← comprehension (.ListComp elt [⟨tg, iter, ifs, 0⟩] sc pos) sc X.env _ (newList []) false (eval iter X.env) (some (assign (.Name x pos') X.env))) _ _ s
  refine wpAny_bind (wpAny_mono (wpAny_comprehension_free (use := some (assign (.Name x pos') X.env)) (Q := fun _ s' => SP X pins D .next s') rfl hs (closure_ok S I.ok) S.kind S.own ?_) (fun _ s' hq => wpAny_pure (wpAny_pure hq)) fun _ _ e => e)
  refine thn (hit pins s σ H _ I h) fun v s1 h1 => thn h1 fun itv s2 h2 => ?_
  obtain ⟨it, fp, tn, J, H2, e, I2, T, st2, f2, q2⟩ := h2
  subst e
  refine comp_run (Q := fun x H1 => gName i x σ H1 D.nx) (RR := fun acc C => compPost (model X.prog X.w) X.A X.xe (some (assign (.Name x pos') X.env)) (fun _ s' => SP X pins D .next s') acc C) hc S (hg pins) (hi pins) (he pins) I2 T st2 f2 q2 fun D' C H' s' I' fC hm q => ?_
  obtain ⟨m, hm⟩ := hm
  show wpAny _ X.A (assign (.Name x pos') X.env (.ref D')) _ _ _
  refine wpAny_assign_Name (store_ok2 I' hN hi' hx (v := .ref D') rfl (fun s'' I'' ch => ?_) hf)
  obtain ⟨a, hsb, ha⟩ := ch
  have hne : C ≠ a := by
    rcases ha with z | z
    · rw [z]; exact fC.2.1
    · exact fun z' => fC.2.2.2.2.1 x a z z'.symm
  exact ⟨m, hm.sameBut hsb hne, fun h' hs' => ⟨_, H', I''.turned (t' := s''.toks) (fun b o hb e => (hs'.2 b hb).trans e) fC.1 fC.2.1 fC.2.2.2.1 fC.2.2.2.2.1 fC.2.2.2.2.2, q⟩⟩
end

/-! ### the forms one uses -/
theorem comp_range {lo : Int} {n : Nat} {g : TG} {tc : TT} {te : TE} {σ : St} {H : Hp} {D : Addr} {Q : VK} (Pv : Nat → St → Hp → Prop) (h0 : Pv 0 σ (upd H D (.lst [])))
    (hs : ∀ i σ' H', i < n → Pv i σ' H' → g (.int (lo + i)) σ' H' fun σ3 H3 => tc σ3 H3 fun b H4 =>
      if b = true then te σ3 H4 fun y H5 => ∃ ys, H5 D = some (.lst ys) ∧ ys.length < sizeLine ∧ Pv (i + 1) σ3 (upd H5 D (.lst (ys ++ [y]))) else Pv (i + 1) σ3 H4) (hd : ∀ σ' H', Pv n σ' H' → Q (.ref D) H') :
    CompW (Itr lo n) g tc te D σ (upd H D (.lst [])) Q := by
  refine ⟨fun i m σ H => m = n - i ∧ i ≤ n ∧ Pv i σ H, ⟨n, by simp, Nat.zero_le _, h0⟩, ?_⟩
  rintro i m σ H ⟨rfl, hi, p⟩
  by_cases hlt : i < n
  · refine .inr ⟨hlt, Pv (i + 1), fun σ' H' p' => ⟨n - (i + 1), by omega, rfl, hlt, p'⟩, fun x H' y => ?_⟩
    obtain ⟨e, y⟩ := y
    subst e y
    exact hs i σ _ hlt p
  · have e : i = n := by omega
    subst e
    exact .inl ⟨Nat.le_refl _, hd σ H p⟩
theorem comp_tup {K : PySem.W.Frag} {a : Addr} {xs : List V} {g : TG} {tc : TT} {te : TE} {σ : St} {H : Hp} {D : Addr} {Q : VK} (Pv : Nat → St → Hp → Prop) (h0 : Pv 0 σ (upd H D (.lst []))) (hl : ∀ i σ H, i ≤ xs.length → Pv i σ H → SqT K H a xs)
    (hs : ∀ i x σ' H', xs[i]? = some x → Pv i σ' H' → g x σ' H' fun σ3 H3 => tc σ3 H3 fun b H4 =>
      if b = true then te σ3 H4 fun y H5 => ∃ ys, H5 D = some (.lst ys) ∧ ys.length < sizeLine ∧ Pv (i + 1) σ3 (upd H5 D (.lst (ys ++ [y]))) else Pv (i + 1) σ3 H4) (hd : ∀ σ' H', Pv xs.length σ' H' → Q (.ref D) H') :
    CompW (Itt K a) g tc te D σ (upd H D (.lst [])) Q := by
  refine ⟨fun i m σ H => m = xs.length - i ∧ i ≤ xs.length ∧ Pv i σ H, ⟨xs.length, by simp, Nat.zero_le _, h0⟩, ?_⟩
  rintro i m σ H ⟨rfl, hi, p⟩
  have q := hl i σ H hi p
  by_cases hlt : i < xs.length
  · refine .inr ⟨⟨xs, xs[i], q, by simp [hlt]⟩, Pv (i + 1), fun σ' H' p' => ⟨xs.length - (i + 1), by omega, rfl, hlt, p'⟩, fun x H' y => ?_⟩
    obtain ⟨e, y⟩ := y
    subst e
    exact hs i x σ _ (y xs q) p
  · have e : i = xs.length := by omega
    subst e
    exact .inl ⟨⟨xs, q, Nat.le_refl _⟩, hd σ H p⟩
theorem comp_list {K : PySem.W.Frag} {a : Addr} {xs : List V} {g : TG} {tc : TT} {te : TE} {σ : St} {H : Hp} {D : Addr} {Q : VK} (Pv : Nat → St → Hp → Prop) (h0 : Pv 0 σ (upd H D (.lst []))) (hl : ∀ i σ H, i ≤ xs.length → Pv i σ H → SqL K H a xs)
    (hs : ∀ i x σ' H', xs[i]? = some x → Pv i σ' H' → g x σ' H' fun σ3 H3 => tc σ3 H3 fun b H4 =>
      if b = true then te σ3 H4 fun y H5 => ∃ ys, H5 D = some (.lst ys) ∧ ys.length < sizeLine ∧ Pv (i + 1) σ3 (upd H5 D (.lst (ys ++ [y]))) else Pv (i + 1) σ3 H4) (hd : ∀ σ' H', Pv xs.length σ' H' → Q (.ref D) H') :
    CompW (Itl K a) g tc te D σ (upd H D (.lst [])) Q := by
  refine ⟨fun i m σ H => m = xs.length - i ∧ i ≤ xs.length ∧ Pv i σ H, ⟨xs.length, by simp, Nat.zero_le _, h0⟩, ?_⟩
  rintro i m σ H ⟨rfl, hi, p⟩
  have q := hl i σ H hi p
  by_cases hlt : i < xs.length
  · refine .inr ⟨⟨xs, xs[i], q, by simp [hlt]⟩, Pv (i + 1), fun σ' H' p' => ⟨xs.length - (i + 1), by omega, rfl, hlt, p'⟩, fun x H' y => ?_⟩
    obtain ⟨e, y⟩ := y
    subst e
    exact hs i x σ _ (y xs q) p
  · have e : i = xs.length := by omega
    subst e
    exact .inl ⟨⟨xs, q, Nat.le_refl _⟩, hd σ H p⟩
end L2
namespace L2
open PySem PySem.Spec PyProof.Rows
/-! ### names, by facts shown once -/
noncomputable def VarOk (sc : Scope) (x : Str) : Prop := Vis sc x ∧ (x == ("__debug__" : Str)) = false ∧ (x == ("__classdict__" : Str)) = false
instance {sc : Scope} {x : Str} : Decidable (VarOk sc x) := by unfold VarOk Vis; exact inferInstance
instance {sc : Scope} {x : Str} : Decidable (Loc sc x) := by unfold Loc; exact inferInstance
theorem pvx {X : Cx} (i : Nat) {x : Str} {pos : Pos} (v : VarOk X.env.scope x) (hN : X.N[i]? = some x := by rfl) : PE X (.Name x pos) (tVar i) := pe_var hN v.1 v.2.1 v.2.2
noncomputable def VarC (sc : Scope) (x : Str) : Prop := (sc.names.lookup x = some .local ∨ sc.names.lookup x = some .free) ∧ (x == ("__debug__" : Str)) = false ∧ (x == ("__classdict__" : Str)) = false
instance {sc : Scope} {x : Str} : Decidable (VarC sc x) := by unfold VarC; exact inferInstance
theorem VarC.ok {sc : Scope} {env : Env} {x : Str} (h : VarC sc x) : VarOk (relabel sc env) x := by
  obtain ⟨h1, h2⟩ := h
  refine ⟨?_, h2⟩
  rcases h1 with h1 | h1
  · exact .inl (lookup_relabel_local h1)
  · rcases relabel_free (env := env) h1 with z | z
    · exact .inr (.inl z)
    · exact .inr (.inr z)
theorem relabel_glob {env : Env} : ∀ {names : List (Str × NameKind)} {x : Str}, names.lookup x = some .globalImplicit →
    (names.map fun (n, k) => if (k == NameKind.free && env.scope.kind == .function && env.kindOf n == some .cell) then (n, NameKind.cell) else (n, k)).lookup x = some .globalImplicit
  | [], _, h => by simp at h
  | (n, q) :: r, x, h => by
    have ih := @relabel_glob env r x
    rw [List.map_cons]
    cases hx : x == n with
    | true =>
      simp only [List.lookup_cons, hx, Option.some.injEq] at h
      subst h
      simp [List.lookup_cons, hx]
    | false =>
      simp only [List.lookup_cons, hx] at h
      by_cases hc : (q == NameKind.free && env.scope.kind == .function && env.kindOf n == some .cell) = true
      · simpa only [hc, if_true, List.lookup_cons, hx] using ih h
      · simpa only [hc, if_false, List.lookup_cons, hx, Bool.false_eq_true] using ih h
theorem glC {X : Cx} {N : List Str} {sc : Scope} {pins : List (Addr × Obj)} {C : Addr} {s₀ : Shared} {H₀ : Hp} {fp : List Addr} {x : Str} (h : sc.names.lookup x = some .globalImplicit) : Gl (cxComp X N sc pins C s₀ H₀ fp) x := relabel_glob h
theorem pgx {X : Cx} {i : Nat} {x : Str} {pos : Pos} (hN : X.N.Nodup) (hx : X.env.scope.names.lookup x = some .local) (hi : X.N[i]? = some x := by rfl) : PG X (.Name x pos) (gName i) := pg_name hN hi (.inl hx) (.inr hx)
theorem locC {sc : Scope} {env : Env} {x : Str} (h : sc.names.lookup x = some .local) : (relabel sc env).names.lookup x = some .local := lookup_relabel_local h
end L2

set_option maxRecDepth 100000
namespace L2
open PySem PySem.Spec PyProof.Rows

/-! ### // by a positive divisor of any written size -/
noncomputable def CDivB (_ j : Int) : Prop := 0 < j ∧ j.natAbs.log2 < 9000
theorem op_fdivB {X : Cx} : OpR X (binaryOp .FloorDiv) (rI CDivB fun i j => .int (i / j)) := opI fun i j _ _ _ _ _ hc q => by
  have h1 : (0 : Int) < j := hc.1
  exact floordiv_int (by omega) (by rw [Int.fdiv_eq_ediv_of_nonneg i (by omega)]; exact q) (.inl (PyProof.noPylong_of_log2 hc.2))

/-! ### values as data, and == of them -/
mutual
inductive DatV (K : PySem.W.Frag) (H : Hp) : V → PyData → Prop where
  | non : DatV K H .non .none
  | bl (b : Bool) : DatV K H (.bl b) (.bool b)
  | int (i : Int) : DatV K H (.int i) (.int i)
  | str (x : Str) : DatV K H (.str x) (.str x)
  | lst {a : Addr} {xs : List V} {ds : List PyData} (h : SqL K H a xs) (r : DatVs K H xs ds) : DatV K H (.ref a) (.list ds)
  | tup {a : Addr} {xs : List V} {ds : List PyData} (h : SqT K H a xs) (r : DatVs K H xs ds) : DatV K H (.ref a) (.tuple ds)
inductive DatVs (K : PySem.W.Frag) (H : Hp) : List V → List PyData → Prop where
  | nil : DatVs K H [] []
  | cons {x : V} {d : PyData} {xs : List V} {ds : List PyData} (h : DatV K H x d) (r : DatVs K H xs ds) : DatVs K H (x :: xs) (d :: ds)
end
theorem datVs_strs {K : PySem.W.Frag} {H : Hp} : ∀ ns : List Str, DatVs K H (ns.map V.str) (ns.map PyData.str)
  | [] => .nil
  | n :: r => .cons (.str n) (datVs_strs r)

section
variable {X : Cx} {pins : List (Addr × Obj)} {σ : St} {H : Hp} {s : Shared}
mutual
theorem DatV.reads (I : Inv X pins σ H s) : ∀ {x : V} {d : PyData} {u : Value}, DatV X.K H x d → RelV x u → ∃ as, Reads s.heap u d as
  | _, _, _, .non, r => by cases (show _ = Value.none from r); exact ⟨_, .none⟩
  | _, _, _, .bl b, r => by cases (show _ = Value.bool b from r); exact ⟨_, .bool b⟩
  | _, _, _, .int i, r => by obtain ⟨t, rfl⟩ := r; exact ⟨_, .int i t⟩
  | _, _, _, .str x, r => by obtain ⟨t, rfl⟩ := r; exact ⟨_, .str x t⟩
  | _, _, _, .lst h q, r => by
    cases (show _ = Value.ref _ from r)
    obtain ⟨its, rv, ⟨o, n, e, c, _, d⟩, _⟩ := I.list h
    obtain ⟨as, hr⟩ := DatVs.reads I q rv
    exact ⟨_, .list e c d (by simpa using hr)⟩
  | _, _, _, .tup h q, r => by
    cases (show _ = Value.ref _ from r)
    obtain ⟨its, rv, ⟨o, e, c, n, d⟩, _⟩ := I.tuple h
    obtain ⟨as, hr⟩ := DatVs.reads I q rv
    exact ⟨_, .tuple e c d (by simpa using hr)⟩
theorem DatVs.reads (I : Inv X pins σ H s) : ∀ {xs : List V} {ds : List PyData} {us : List Value}, DatVs X.K H xs ds → Vals xs us → ∃ as, ReadsAll s.heap us ds as
  | _, _, _, .nil, .nil => ⟨_, .nil⟩
  | _, _, _, .cons h r, .cons q t => by
    obtain ⟨as, h1⟩ := DatV.reads I h q
    obtain ⟨bs, h2⟩ := DatVs.reads I r t
    exact ⟨_, .cons h1 h2⟩
end
end
noncomputable def rEqD (K : PySem.W.Frag) (neg : Bool) : R2 := fun x y H Q => ∃ d e, DatV K H x d ∧ DatV K H y e ∧ SeqAt.shaped d = true ∧ SeqAt.shaped e = true ∧ Q (.bl (if neg then !PyData.eqv d e else PyData.eqv d e)) H
theorem op_eqD {X : Cx} (hu : X.A.units + 64 < cLine) : OpR X (compareOp .Eq) (rEqD X.K false) := by
  intro pins s σ H x y v u Q I rx ry h
  obtain ⟨d, e, hd, he, sd, se, q⟩ := h
  obtain ⟨as, h1⟩ := hd.reads I rx
  obtain ⟨bs, h2⟩ := he.reads I ry
  exact eq_dataH h1 h2 sd se hu ⟨.bl _, H, I, rfl, q⟩
theorem op_neD {X : Cx} (hu : X.A.units + 64 < cLine) : OpR X (compareOp .NotEq) (rEqD X.K true) := by
  intro pins s σ H x y v u Q I rx ry h
  obtain ⟨d, e, hd, he, sd, se, q⟩ := h
  obtain ⟨as, h1⟩ := hd.reads I rx
  obtain ⟨bs, h2⟩ := he.reads I ry
  exact ne_dataH h1 h2 sd se hu ⟨.bl _, H, I, rfl, q⟩

/-! ### sep.join(texts) -/

/-! ### range(a, b, c) with a written c above 0 -/
noncomputable def Itr3 (lo c : Int) (n : Nat) : It := ⟨fun i _ => i < n, fun i H x H' => H' = H ∧ x = .int (lo + i * c), fun i _ => n ≤ i⟩
theorem turn_range3 {P : Program} {w : World} {K : PySem.W.Frag} {tg : Expr} (it : Addr) (lo c : Int) (n : Nat) : Turn P w K tg (Itr3 lo c n) [it] it (fun i h => IsRangeIter h it (lo + (i : Nat) * c) ((n : Int) - (i : Nat)) c) where
  mem := by simp
  obj := fun i h st b hb => by
    have e : b = it := by simpa using hb
    subst e
    exact ⟨_, st, fun v z => by
      have z' : Data.fields _ = Data.cell v := z
      cases z'⟩
  keep := fun i h h' st k => k it (by simp) _ st
  item := by
    intro X hP hw hK hc i pins s σ H E I hf st hg
    subst hP hw hK
    obtain ⟨f0, f1, f2, f3, f4, f5⟩ := hf it (by simp)
    have W := Walks.range (prog := X.prog) (w := X.w) (I.ok.hd hc) it lo c n
    refine W.item i s _ _ hg st fun v h' tk hv st' kk => ?_
    obtain ⟨t, rfl⟩ := hv
    have I1 : Inv X pins σ H { s with heap := h', toks := tk } := I.turned (fun b o hb e => kk b o (by simpa using hb) e) f0 f1 f3 f4 f5
    exact ⟨_, rfl, go_of (s := { s with heap := h', toks := tk }) (n := "range_iterator") st' rfl rfl (by decide) ⟨.int (lo + i * c), H, I1, ⟨t, rfl⟩, ⟨rfl, rfl⟩, st', fun b hb => (hf b hb).1⟩⟩
  done := by
    intro X hP hw hK hc i pins s σ H E I hf st hg
    subst hP hw hK
    obtain ⟨f0, f1, f2, f3, f4, f5⟩ := hf it (by simp)
    exact wpAny_pyNext_range_end (I.ok.hd hc) st (by have : n ≤ i := hg; omega) fun h' eb => ⟨rfl, I.turned (t' := s.toks) (fun b o hb e => eb b o hb e) f0 f1 f3 f4 f5⟩
  self := fun _ _ _ _ _ st h => wpAny_pyIter_rangeiter st h
noncomputable def rngN (i j c : Int) : Nat := (if i < j then (j - i - 1) / c + 1 else 0).toNat
theorem range_it3 {X : Cx} {tg : Expr} {pins : List (Addr × Obj)} {σ : St} {H : Hp} {s : Shared} {R : It → Hp → Prop} {E : Value → Shared → Prop} {lo hi c : Int} {t u v : Tok} {tk : Nat} (I : Inv X pins σ H s)
    (h1 : -(2 ^ 40) ≤ lo) (h2 : lo < 2 ^ 40) (h3 : -(2 ^ 40) ≤ hi) (h4 : hi < 2 ^ 40) (h5 : 0 < c) (h6 : c < 2 ^ 40)
    (q : R (Itr3 lo c (rngN lo hi c)) H) : wpAny (model X.prog X.w) X.A (pyIter (.ref s.heap.objs.size)) (PIE X pins σ tg R) E { s with heap := s.heap.push { cls := .type "range", data := .fields #[.int lo t, .int hi u, .int c v] }, toks := tk } := by
  have hd1 : lo < hi → 0 ≤ (hi - lo - 1) / c ∧ (hi - lo - 1) / c ≤ hi - lo - 1 := fun z => by
    constructor
    · exact Int.ediv_nonneg (by omega) (by omega)
    · exact Int.ediv_le_self _ (by omega)
  have small : Builtin.Range.small lo hi c = true := by
    unfold Builtin.Range.small Builtin.Range.rangeSize
    simp only [Builtin.Range.rangeFitsLong, Bool.and_eq_true, Bool.or_eq_true, decide_eq_true_eq, beq_iff_eq, show c > 0 from h5, if_true]
    split
    · rename_i z
      have := hd1 z
      omega
    · omega
  refine wpAny_pyIter_range (IsRange.new ..) small ?_
  have I1 : Inv X pins σ H { s with heap := s.heap.push { cls := .type "range", data := .fields #[.int lo t, .int hi u, .int c v] }, toks := tk } := I.kept fun b o e => Heap.get?_push_of_some _ e
  refine ⟨(s.heap.push { cls := .type "range", data := .fields #[.int lo t, .int hi u, .int c v] }).objs.size, [(s.heap.push { cls := .type "range", data := .fields #[.int lo t, .int hi u, .int c v] }).objs.size], _, _, H, rfl,
    I1.kept (t' := tk) fun b o e => Heap.get?_push_of_some _ e, turn_range3 _ lo c (rngN lo hi c), ?_, fun b hb => ?_, q⟩
  · have e1 : lo + ((0 : Nat) : Int) * c = lo := by simp
    have e2 : ((rngN lo hi c : Nat) : Int) - ((0 : Nat) : Int) = Builtin.Range.rangeSize lo hi c := by
      unfold rngN Builtin.Range.rangeSize
      rw [if_pos h5]
      split
      · rename_i z
        have := hd1 z
        omega
      · rfl
    show IsRangeIter _ _ (lo + ((0 : Nat) : Int) * c) (((rngN lo hi c : Nat) : Int) - ((0 : Nat) : Int)) c
    rw [e1, e2]
    exact Heap.get?_push_size _ rfl
  · have e : b = (s.heap.push { cls := .type "range", data := .fields #[.int lo t, .int hi u, .int c v] }).objs.size := by simpa using hb
    subst e
    exact I1.fpOk (Nat.le_refl _) (I1.hok.fresh (Nat.le_refl _))
theorem comp_range3 {lo c : Int} {n : Nat} {g : TG} {tc : TT} {te : TE} {σ : St} {H : Hp} {D : Addr} {Q : VK} (Pv : Nat → St → Hp → Prop) (h0 : Pv 0 σ (upd H D (.lst [])))
    (hs : ∀ i σ' H', i < n → Pv i σ' H' → g (.int (lo + i * c)) σ' H' fun σ3 H3 => tc σ3 H3 fun b H4 =>
      if b = true then te σ3 H4 fun y H5 => ∃ ys, H5 D = some (.lst ys) ∧ ys.length < sizeLine ∧ Pv (i + 1) σ3 (upd H5 D (.lst (ys ++ [y]))) else Pv (i + 1) σ3 H4) (hd : ∀ σ' H', Pv n σ' H' → Q (.ref D) H') :
    CompW (Itr3 lo c n) g tc te D σ (upd H D (.lst [])) Q := by
  refine ⟨fun i m σ H => m = n - i ∧ i ≤ n ∧ Pv i σ H, ⟨n, by simp, Nat.zero_le _, h0⟩, ?_⟩
  rintro i m σ H ⟨rfl, hi, p⟩
  by_cases hlt : i < n
  · refine .inr ⟨hlt, Pv (i + 1), fun σ' H' p' => ⟨n - (i + 1), by omega, rfl, hlt, p'⟩, fun x H' y => ?_⟩
    obtain ⟨e, y⟩ := y
    subst e y
    exact hs i σ _ hlt p
  · have e : i = n := by omega
    subst e
    exact .inl ⟨Nat.le_refl _, hd σ H p⟩
noncomputable def iRng3 (ta : TA) : TI := fun σ H R => ta σ H fun vs H1 => ∃ i j c : Int, vs = [.int i, .int j, .int c] ∧ (-(2 ^ 40) ≤ i ∧ i < 2 ^ 40 ∧ -(2 ^ 40) ≤ j ∧ j < 2 ^ 40 ∧ 0 < c ∧ c < 2 ^ 30) ∧ R (Itr3 i c (rngN i j c)) H1
theorem pi_range3 {X : Cx} {tg : Expr} {a b c : Expr} {ta : TA} {p pos : Pos} (hg : Gl X "range") (hm : X.mg "range" = none) (ha : PA X [a, b, c] ta)
    (hs : starEach [a, b, c] X.env = [(false, eval a X.env), (false, eval b X.env), (false, eval c X.env)] := by rfl) (hs2 : starEach [b, c] X.env = [(false, eval b X.env), (false, eval c X.env)] := by rfl) :
    PI X tg (.Call (.Name "range" p) [a, b, c] [] pos) (iRng3 ta) := by
  intro pins s σ H R I h
  refine Call_ (ld_blt I hg hm boot_range (PyProof.Rows.callWith_type1 (thn (ha pos pins s σ H _ I h) fun us s1 ⟨vs, H1, I1, r1, q1⟩ => ?_) (by rw [hs, hs2]) (by rw [hs2]; rfl)))
  obtain ⟨i, j, k, e, ⟨q1, q2, q3, q4, q5, q6⟩, q⟩ := q1
  subst e
  cases r1 with
  | cons r rr =>
    cases rr with
    | cons r' rr =>
      cases rr with
      | cons r'' rr =>
        cases rr
        obtain ⟨t, rfl⟩ := r
        obtain ⟨t', rfl⟩ := r'
        obtain ⟨t'', rfl⟩ := r''
        exact call_range_3 (by omega) (range_it3 I1 q1 q2 q3 q4 q5 (by omega) q) (.inl (PyProof.noPylong_small (by omega)))

/-! ### isinstance(x, T), T a built-in class -/
theorem call_isi {X : Cx} : CallR X (.builtin "isinstance") (fun xs H Q => ∃ x T t b, xs = [x, .ty T] ∧ TyOf X.K H x t ∧ PySem.W.kitOne X.K t (.type T) = some b ∧ Q (.bl b) H) := by
  intro pins s σ H xs us Q I r h
  obtain ⟨x, T, t, b, rfl, ty, e, q⟩ := h
  obtain ⟨u, v, rfl, r1, r2⟩ := Vals.two r
  cases (show v = Value.type T from r2)
  exact isinst_ok I r1 ty e fun tk => ⟨.bl b, H, I.tok tk, rfl, q⟩

/-! ### a dict of the module's top, keys texts -/
noncomputable def Tab (P : Program) (w : World) (K : PySem.W.Frag) (a : Addr) (D : List (Str × PyData)) : Prop := ∀ h : Heap, K.In h → StrTab P w h a (D.map fun p => (PyData.str p.1, p.2))
theorem tab_mk {P : Program} {w : World} {K : PySem.W.Frag} {a : Addr} {D : List (Str × PyData)} (e : PyProof.Rows.KTD.tabLook PyProof.Rows.KTD.flatLooks (fun b => K.lookup b) a D = true) (n : (D.map (·.1)).Nodup)
    (q : PyProof.Rows.KTD.hashesOf (fun b => K.lookup b) a = D.map fun p => (PySem.strKind P w).hash p.1) : Tab P w K a D := fun _ x => PySem.W.kt_tab_in P w x e n q
noncomputable def flatV? : PyData → Option V
  | .none => some .non
  | .bool b => some (.bl b)
  | .int i => some (.int i)
  | .str x => some (.str x)
  | _ => Option.none
theorem flat_rel {d : PyData} {v : V} {u : Value} (h : flatV? d = some v) (f : PyProof.V.Flat u d) : RelV v u := by
  cases d with
  | none => cases h; cases f {}; rfl
  | bool b => cases h; cases f {}; rfl
  | int i => cases h; exact f.int_inv
  | str x => cases h; exact f.str_inv
  | list _ => cases h
  | tuple _ => cases h
  | dict _ => cases h
noncomputable def rTab (a : Addr) (D : List (Str × PyData)) : R2 := fun x y H Q => ∃ k d v, x = .ref a ∧ y = .str k ∧ PySem.Spec.lookup (.str k) (D.map fun p => (PyData.str p.1, p.2)) = some d ∧ flatV? d = some v ∧ Q v H
theorem ix_tab {X : Cx} {a : Addr} {D : List (Str × PyData)} (T : Tab X.prog X.w X.K a D) : IxR X (rTab a D) := by
  intro value slice pins s σ H x y v u Q I rx ry h hs
  obtain ⟨k, d, z, rfl, rfl, hl, hf, q⟩ := h
  cases (show v = Value.ref a from rx)
  obtain ⟨t, rfl⟩ := ry
  obtain ⟨lo, kvs, hd, hfp⟩ := T _ I.kIn
  obtain ⟨w', hv, hfl⟩ := hfp.of_lookup PyProof.V.same_str hl
  refine subscriptTail_builtinR (x := w') hd.typeIs F.slot_dict_getitem.lookup ?_ hs
  exact wpAny_getItem_of (strKind_is X.prog X.w k t) hd.mapOf hv ⟨rfl, z, H, I.tok _, flat_rel hf hfl, q⟩
noncomputable def rInTab (a : Addr) (D : List (Str × PyData)) (neg : Bool) : R2 := fun x y H Q => ∃ k, x = .str k ∧ y = .ref a ∧ Q (.bl (if neg then !(PySem.Spec.lookup (.str k) (D.map fun p => (PyData.str p.1, p.2))).isSome else (PySem.Spec.lookup (.str k) (D.map fun p => (PyData.str p.1, p.2))).isSome)) H
theorem op_inTab {X : Cx} {a : Addr} {D : List (Str × PyData)} (T : Tab X.prog X.w X.K a D) : OpR X (compareOp .In) (rInTab a D false) := by
  intro pins s σ H x y v u Q I rx ry h
  obtain ⟨k, rfl, rfl, q⟩ := h
  cases (show u = Value.ref a from ry)
  obtain ⟨t, rfl⟩ := rx
  exact in_strTab (T _ I.kIn) ⟨.bl _, H, I.tok _, rfl, q⟩
theorem bt_len : bootBuiltins "len" = some (.builtin "len") := by decide +kernel
theorem bt_isinstance : bootBuiltins "isinstance" = some (.builtin "isinstance") := by decide +kernel
theorem bt_max : bootBuiltins "max" = some (.builtin "max") := by decide +kernel
theorem bt_sum : bootBuiltins "sum" = some (.builtin "sum") := by decide +kernel
theorem bt_all : bootBuiltins "all" = some (.builtin "all") := by decide +kernel
theorem bt_int : bootBuiltins "int" = some (.type "int") := by decide +kernel
theorem bt_str : bootBuiltins "str" = some (.type "str") := by decide +kernel
theorem bt_bool : bootBuiltins "bool" = some (.type "bool") := by decide +kernel
theorem bt_list : bootBuiltins "list" = some (.type "list") := by decide +kernel
theorem bt_tuple : bootBuiltins "tuple" = some (.type "tuple") := by decide +kernel
theorem bt_dict : bootBuiltins "dict" = some (.type "dict") := by decide +kernel
theorem bt_set : bootBuiltins "set" = some (.type "set") := by decide +kernel
end L2

set_option maxRecDepth 100000
namespace L2
open PySem PySem.Spec PyProof.Rows
/-! ### the rules once more, their judgements as structures: the elaborator then looks at nothing else -/
structure QE (X : Cx) (e : Expr) (t : TE) : Prop where
  h : PE X e t
structure QT (X : Cx) (e : Expr) (t : TT) : Prop where
  h : PT X e t
structure QW (X : Cx) (e : Expr) (t : TT) : Prop where
  h : PW X e t
structure QA (X : Cx) (es : List Expr) (t : TA) : Prop where
  h : PA X es t
structure QS (X : Cx) (s : Stmt) (t : TS) : Prop where
  h : PS X s t
structure QSs (X : Cx) (s : List Stmt) (t : TS) : Prop where
  h : PSs X s t
structure QG (X : Cx) (e : Expr) (t : TG) : Prop where
  h : PG X e t
structure QGs (X : Cx) (es : List Expr) (t : TGs) : Prop where
  h : PGs X es t
structure QI (X : Cx) (tg e : Expr) (t : TI) : Prop where
  h : PI X tg e t
structure QO (X : Cx) (e : Option Expr) (t : TO) : Prop where
  h : PO X e t
structure QIfs (X : Cx) (es : List Expr) (t : TT) : Prop where
  h : PIfs X es t
structure QPs (X : Cx) (pos : Pos) (ks : List (Option Expr)) (vs : List Expr) (t : List (TE × TE)) : Prop where
  h : PPs X pos ks vs t
structure QOp (X : Cx) (f : Value → Value → Sem Value) (r : R2) : Prop where
  h : OpR X f r
structure QUn (X : Cx) (f : Value → Sem Value) (r : V → Hp → VK → Prop) : Prop where
  h : UnR X f r
structure QIx (X : Cx) (r : R2) : Prop where
  h : IxR X r
structure QSl (X : Cx) (r : V → Option Int → Option Int → Hp → VK → Prop) : Prop where
  h : SlR X r
structure QMt (X : Cx) (id : String) (r : V → List V → Hp → VK → Prop) : Prop where
  h : MtR X id r
structure QCall (X : Cx) (f : Value) (r : List V → Hp → VK → Prop) : Prop where
  h : CallR X f r
section
variable {X : Cx} {a b c e : Expr} {es : List Expr} {ta tb te : TE} {tA tB' : TT} {pos p : Pos} {x : Str}
theorem qe_var (i : Nat) (v : VarOk X.env.scope x) (hN : X.N[i]? = some x := by rfl) : QE X (.Name x pos) (tVar i) := ⟨pvx i v hN⟩
theorem qe_int {i j pos} : QE X (.Constant (.int i) j pos) (tC (.int i)) := ⟨pe_int⟩
theorem qe_bl {b j pos} : QE X (.Constant (.bool b) j pos) (tC (.bl b)) := ⟨pe_bl⟩
theorem qe_str {x j pos} : QE X (.Constant (.str x) j pos) (tC (.str x)) := ⟨pe_str⟩
theorem qe_glob {v : V} {u : Value} (hg : Gl X x) (hm : X.mg x = some u) (r : RelV v u) (hd : (x == ("__debug__" : Str)) = false) : QE X (.Name x pos) (tC v) := ⟨pe_glob hg hm r hd⟩
theorem qe_bltn {v : V} {u : Value} (hg : Gl X x) (hm : X.mg x = none) (hv : bootBuiltins x = some u) (r : RelV v u) (hn : x ≠ "__name__") (hd : (x == ("__debug__" : Str)) = false) : QE X (.Name x pos) (tC v) := ⟨pe_bltn hg hm hv r hn hd⟩
theorem qe_op {op : Operator} {r : R2} (ho : QOp X (binaryOp op) r) (ha : QE X a ta) (hb : QE X b tb) : QE X (.BinOp a op b pos) (tOp r ta tb) := ⟨pe_op ho.h ha.h hb.h⟩
theorem qe_un {op : UnaryOp} {r : V → Hp → VK → Prop} (ho : QUn X (unaryOp op) r) (ha : QE X a ta) : QE X (.UnaryOp op a pos) (tUn r ta) := ⟨pe_un ho.h ha.h⟩
theorem qe_cmp {op : CmpOp} {r : R2} (ho : QOp X (compareOp op) r) (ha : QE X a ta) (hb : QE X b tb) (hm : behindInMarks op b = false) : QE X (.Compare a [op] [b] pos) (tOp r ta tb) := ⟨pe_cmpR ho.h ha.h hb.h hm⟩
theorem qt_cmp {op : CmpOp} {r : R2} (ho : QOp X (compareOp op) r) (ha : QE X a ta) (hb : QE X b tb) (hm : behindInMarks op b = false) : QT X (.Compare a [op] [b] pos) (tTest (tOp r ta tb)) := ⟨pt_cmpR ho.h ha.h hb.h hm⟩
theorem qt_val (h : QE X e te) (he : ∀ whole, isTrue e X.env whole = (do let v ← whole; standAt e.pos; holding [v] (truthy v)) := by intro _; rfl) : QT X e (tB te) := ⟨pt_val h.h he⟩
theorem qt_truth (ha : QE X a ta) (he : ∀ whole, isTrue a X.env whole = (do let v ← whole; standAt a.pos; holding [v] (truthy v)) := by intro _; rfl) : QT X a (fun σ H Q => ta σ H fun x H1 => ∃ k, TruV X.K x H1 k ∧ Q k H1) := ⟨pt_truth ha.h he⟩
theorem qt_not (ha : QT X a tA) : QT X (.UnaryOp .Not a pos) (tNot tA) := ⟨pt_not ha.h⟩
theorem qe_not (ha : QE X a ta) : QE X (.UnaryOp .Not a pos) (tNotV ta) := ⟨pe_not ha.h⟩
theorem qw_and1 (ha : QT X a tA) : QW X (.BoolOp .And [a] pos) tA := ⟨pw_and1 ha.h⟩
theorem qw_or1 (ha : QT X a tA) : QW X (.BoolOp .Or [a] pos) tA := ⟨pw_or1 ha.h⟩
theorem qw_and {rest : List Expr} (ha : QT X a tA) (hb : QW X (.BoolOp .And (b :: rest) pos) tB') : QW X (.BoolOp .And (a :: b :: rest) pos) (tAnd tA tB') := ⟨pw_and ha.h hb.h⟩
theorem qw_or {rest : List Expr} (ha : QT X a tA) (hb : QW X (.BoolOp .Or (b :: rest) pos) tB') : QW X (.BoolOp .Or (a :: b :: rest) pos) (tOr tA tB') := ⟨pw_or ha.h hb.h⟩
theorem qt_w (h : QW X e tA) : QT X e tA := ⟨h.h.pt⟩
theorem qe_one {op} (h : QE X a ta) : QE X (.BoolOp op [a] pos) ta := ⟨pe_one h.h⟩
theorem qe_and {rest : List Expr} (ha : QE X a ta) (hb : QE X (.BoolOp .And (b :: rest) pos) tb) : QE X (.BoolOp .And (a :: b :: rest) pos) (tAndV ta tb) := ⟨pe_and ha.h hb.h⟩
theorem qa_nil : QA X [] tNil := ⟨pa_nil⟩
theorem qa_cons {t : TA} (ha : QE X e te) (hr : QA X es t) (hs : starEach (e :: es) X.env = (false, eval e X.env) :: starEach es X.env := by rfl) : QA X (e :: es) (tCons te t) := ⟨pa_cons ha.h hr.h hs⟩
theorem qe_tup {x1} {t : TA} (h : QA X es t) : QE X (.Tuple es x1 pos) (tTup t) := ⟨pe_tup h.h⟩
theorem qe_lst {t : TA} (h : QA X es t) : QE X (.List es pos) (tLst t) := ⟨pe_lst h.h⟩
theorem qe_ix {r : R2} (hr : QIx X r) (ha : QE X a ta) (hb : QE X b tb) (hs : PlainIx b := by intro _ _; rfl) : QE X (.Subscript a b pos) (tOp r ta tb) := ⟨pe_ix hr.h ha.h hb.h hs⟩
theorem qo_none : QO X none tNoPart := ⟨po_none⟩
theorem qo_some (h : QE X e te) : QO X (some e) (tPart te) := ⟨po_some h.h⟩
theorem qe_slice {r : V → Option Int → Option Int → Hp → VK → Prop} {lo hi : Option Expr} {tl th : TO} {p2 : Pos} (hr : QSl X r) (he : QE X e te) (hl : QO X lo tl) (hu : QO X hi th) : QE X (.Subscript e (.Slice lo hi none p2) pos) (tSl r te tl th) := ⟨pe_slice hr.h he.h hl.h hu.h⟩
theorem qe_dget (hu : X.A.units + 1 < cLine) (ho : QE X a ta) (hi : QE X b tb) (hs : NoSl b := by intro _ _; rfl) : QE X (.Subscript a b pos) (tDGet ta tb) := ⟨pe_dget hu ho.h hi.h hs⟩
theorem qp_nil : QPs X pos [] [] [] := ⟨pps_nil⟩
theorem qp_cons {k v : Expr} {ks : List (Option Expr)} {vs : List Expr} {tk tv : TE} {trs : List (TE × TE)} (hk : QE X k tk) (hv : QE X v tv) (hr : QPs X pos ks vs trs) : QPs X pos (some k :: ks) (v :: vs) ((tk, tv) :: trs) := ⟨pps_cons hk.h hv.h hr.h⟩
theorem qe_disp {keys : List (Option Expr)} {values : List Expr} {trs : List (TE × TE)} (h : QPs X pos keys values trs) (hall : keys.all (·.isSome) = true := by rfl) (hl : keys.length = values.length := by rfl) (h1 : keys ≠ [] := by intro z; cases z) (h2 : keys.length ≤ 15 := by decide) : QE X (.Dict keys values pos) (tDisp trs) := ⟨pe_disp h.h hall hl h1 h2⟩
theorem qe_call {CX : CXT} {k : Nat} {f : Addr} {fd : FuncData} {ps : List Str} {sp : Sp} {dvs : List V} {ds : List Value} {E : XK} {t : TA} (F : FnOk X.prog X.w X.K X.mg X.base CX k f fd ps sp) (hr : Room k X.A) (hg : Gl X x) (hm : X.mg x = some (.ref f)) (hk : PySem.W.keepIn X.K (.ref f) = true) (hb : Binds X.K fd ps ds) (hd : Vals dvs ds) (hx : Passes CX X E)
    (ha : QA X (e :: es) t) (hdb : (x == ("__debug__" : Str)) = false) (he : starEach (e :: es) X.env = (false, eval e X.env) :: starEach es X.env := by rfl) (hpl : (backTo pos (starEach es X.env)).any (·.1) = false := by rfl) :
    QE X (.Call (.Name x p) (e :: es) [] pos) (tCall sp dvs E t) := ⟨pe_call F hr hg hm hk hb hd hx ha.h hdb he hpl⟩
theorem qe_callB {id : String} {r : List V → Hp → VK → Prop} {t : TA} (hc : QCall X (.builtin id) r) (hg : Gl X x) (hm : X.mg x = none) (hv : bootBuiltins x = some (.builtin id)) (ha : QA X (e :: es) t) (hn : x ≠ "__name__") (hdb : (x == ("__debug__" : Str)) = false)
    (he : starEach (e :: es) X.env = (false, eval e X.env) :: starEach es X.env := by rfl) (hpl : (backTo pos (starEach es X.env)).any (·.1) = false := by rfl) : QE X (.Call (.Name x p) (e :: es) [] pos) (tCB r t) := ⟨pe_callB hc.h hg hm hv ha.h hn hdb he hpl⟩
theorem qe_callTy {T : String} {r : List V → Hp → VK → Prop} {t : TA} (hc : QCall X (.type T) r) (hg : Gl X x) (hm : X.mg x = none) (hv : bootBuiltins x = some (.type T)) (ha : QA X (e :: es) t) (hn : x ≠ "__name__") (hdb : (x == ("__debug__" : Str)) = false)
    (he : starEach (e :: es) X.env = (false, eval e X.env) :: starEach es X.env := by rfl) (hpl : (backTo pos (starEach es X.env)).any (·.1) = false := by rfl) : QE X (.Call (.Name x p) (e :: es) [] pos) (tCB r t) := ⟨pe_callTy hc.h hg hm hv ha.h hn hdb he hpl⟩
theorem qe_bm0 {o : Expr} {to : TE} {name : Str} {apos cpos : Pos} {T id : String} {r : V → List V → Hp → VK → Prop} (pa : PlainAttrs T) (slot : Slot T name id) (hty : typeOf (.builtin id) = pure (.type "method_descriptor")) (hm : QMt X id r) (ho : QE X o to)
    (hbase : attributeBase o name X.env (eval o X.env) = eval o X.env := by rfl) (hline : (apos.endLine == cpos.line) = true := by rfl) : QE X (.Call (.Attribute o name apos) [] [] cpos) (tBM0 X.K T r to) := ⟨pe_bm0 pa slot hty hm.h ho.h hbase hline⟩
theorem qe_bm {o : Expr} {to : TE} {name : Str} {apos cpos : Pos} {T id : String} {r : V → List V → Hp → VK → Prop} {t : TA} (pa : PlainAttrs T) (slot : Slot T name id) (hty : typeOf (.builtin id) = pure (.type "method_descriptor")) (hm : QMt X id r) (ho : QE X o to) (ha : QA X (e :: es) t)
    (hbase : attributeBase o name X.env (eval o X.env) = eval o X.env := by rfl)
    (hfew : ((backTo cpos (starEach (e :: es) X.env)).all (fun x => !x.1) && (backToKw cpos (keywordEach [] X.env)).all (fun x => x.1.isSome)
      && decide ((e :: es).length + ([] : List Keyword).length + (if ([] : List Keyword).isEmpty then 0 else 1) < 30)) = true := by rfl)
    (hline : (apos.endLine == cpos.line) = true := by rfl) (hs : starEach (e :: es) X.env = (false, eval e X.env) :: starEach es X.env := by rfl) (hplain : (backTo cpos (starEach es X.env)).any (·.1) = false := by rfl) :
    QE X (.Call (.Attribute o name apos) (e :: es) [] cpos) (tBM X.K T r to t) := ⟨pe_bm pa slot hty hm.h ho.h ha.h hbase hfew hline hs hplain⟩
theorem qe_comp {n : Nat} {fr : List Nat} {N : List Str} {sc : Scope} {elt tg iter : Expr} {ifs : List Expr} {wi : TI} {g : TG} {tc : TT} (hc : X.calm = true) (S : CScope X n fr N sc) (hit : QI X tg iter wi)
    (hg : ∀ pins C s₀ H₀ fp, QG (cxComp X N sc pins C s₀ H₀ fp) tg g) (hi : ∀ pins C s₀ H₀ fp, QIfs (cxComp X N sc pins C s₀ H₀ fp) ifs tc) (he : ∀ pins C s₀ H₀ fp, QE (cxComp X N sc pins C s₀ H₀ fp) elt te)
    (hs : ∀ x, foldedSetIterable iter X.env x = pure x := by intro _; rfl) : QE X (.ListComp elt [⟨tg, iter, ifs, 0⟩] sc pos) (tComp wi n fr g tc te) :=
  ⟨pe_comp hc S hit.h (fun a b c d e => (hg a b c d e).h) (fun a b c d e => (hi a b c d e).h) (fun a b c d e' => (he a b c d e').h) hs⟩
theorem qs_setcomp {i : Nat} {pos' spos : Pos} {n : Nat} {fr : List Nat} {N : List Str} {sc : Scope} {elt tg iter : Expr} {ifs : List Expr} {wi : TI} {g : TG} {tc : TT} (hc : X.calm = true) (hN : X.N.Nodup) (hi' : X.N[i]? = some x) (hx : Loc X.env.scope x) (S : CScope X n fr N sc) (hit : QI X tg iter wi)
    (hg : ∀ pins C s₀ H₀ fp, QG (cxComp X N sc pins C s₀ H₀ fp) tg g) (hi : ∀ pins C s₀ H₀ fp, QIfs (cxComp X N sc pins C s₀ H₀ fp) ifs tc) (he : ∀ pins C s₀ H₀ fp, QE (cxComp X N sc pins C s₀ H₀ fp) elt te)
    (hsw : swapsWith (.ListComp elt [⟨tg, iter, ifs, 0⟩] sc pos) (some (.Name x pos')) spos.line X.env = pure true)
    (hs : ∀ x, foldedSetIterable iter X.env x = pure x := by intro _; rfl) (hf : X.fn x = true ∨ X.env.scope.names.lookup x = some .local := by first | exact .inl rfl | exact .inr rfl | assumption) :
    QS X (.Assign [.Name x pos'] (.ListComp elt [⟨tg, iter, ifs, 0⟩] sc pos) spos) (tAsg (tComp wi n fr g tc te) (gName i)) :=
  ⟨ps_setcomp hc hN hi' hx S hit.h (fun a b c d e => (hg a b c d e).h) (fun a b c d e => (hi a b c d e).h) (fun a b c d e' => (he a b c d e').h) hsw hs hf⟩
theorem qi_nil : QIfs X [] tTrue := ⟨pifs_nil⟩
theorem qi_one {t : TT} (h : QT X c t) : QIfs X [c] t := ⟨pifs_one h.h⟩
theorem qi_list {tg l : Expr} {tl : TE} (hl : QE X l tl) : QI X tg l (iList X.K tl) := ⟨pi_list hl.h⟩
theorem qi_tup {tg l : Expr} {tl : TE} (hl : QE X l tl) : QI X tg l (iTup X.K tl) := ⟨pi_tup hl.h⟩
theorem qi_range1 {tg : Expr} {t : TA} (hg : Gl X "range") (hm : X.mg "range" = none) (ha : QA X [a] t) (hs : starEach [a] X.env = [(false, eval a X.env)] := by rfl) : QI X tg (.Call (.Name "range" p) [a] [] pos) (iRng1 t) := ⟨pi_range1 hg hm ha.h hs⟩
theorem qi_range3 {tg : Expr} {t : TA} (hg : Gl X "range") (hm : X.mg "range" = none) (ha : QA X [a, b, c] t)
    (hs : starEach [a, b, c] X.env = [(false, eval a X.env), (false, eval b X.env), (false, eval c X.env)] := by rfl) (hs2 : starEach [b, c] X.env = [(false, eval b X.env), (false, eval c X.env)] := by rfl) : QI X tg (.Call (.Name "range" p) [a, b, c] [] pos) (iRng3 t) := ⟨pi_range3 hg hm ha.h hs hs2⟩
theorem qg_name {i : Nat} (hN : X.N.Nodup) (hi : X.N[i]? = some x) (hx : Loc X.env.scope x) (hf : X.fn x = true ∨ X.env.scope.names.lookup x = some .local := by first | exact .inl rfl | exact .inr rfl | assumption) : QG X (.Name x pos) (gName i) := ⟨pg_name hN hi hx hf⟩
theorem qgx {i : Nat} (hN : X.N.Nodup) (hx : X.env.scope.names.lookup x = some .local) (hi : X.N[i]? = some x := by rfl) : QG X (.Name x pos) (gName i) := ⟨pgx hN hx hi⟩
theorem qgs_nil : QGs X [] gNil := ⟨pgs_nil⟩
theorem qgs_cons {t : TG} {u : TGs} (h1 : QG X e t) (h2 : QGs X es u) (hs : (assignEach (e :: es) X.env).map (·.2) = assign e X.env :: (assignEach es X.env).map (·.2) := by rfl) : QGs X (e :: es) (gCons t u) := ⟨pgs_cons h1.h h2.h hs⟩
theorem qg_tup {k n : Nat} {t : TGs} (hc : X.calm = true) (h : QGs X es t) (hn : (assignEach es X.env).length = n := by rfl) (hst : (assignEach es X.env).findIdx? (·.1) = none := by rfl) : QG X (.Tuple es k pos) (gTup X.K n t) := ⟨pg_tup hc h.h hn hst⟩
theorem qs_asg {tg : Expr} {g : TG} (he : QE X e te) (hg : QG X tg g) (hs : swapsWithSole [tg] e pos.line X.env = pure false := by rfl) (hw : swappedStores [tg] e X.env = pure none := by rfl)
    (h1 : (assignEach [tg] X.env).map (·.2) = [assign tg X.env] := by rfl) : QS X (.Assign [tg] e pos) (tAsg te g) := ⟨ps_asg he.h hg.h hs hw h1⟩
theorem qs_set {i : Nat} {pos' : Pos} (hN : X.N.Nodup) (hi : X.N[i]? = some x) (hx : Loc X.env.scope x) (he : QE X e te) (hs : swapsWith e (some (.Name x pos')) pos.line X.env = pure false := by rfl) (hf : X.fn x = true ∨ X.env.scope.names.lookup x = some .local := by first | exact .inl rfl | exact .inr rfl | assumption) :
    QS X (.Assign [.Name x pos'] e pos) (tAsg te (gName i)) := ⟨ps_set hN hi hx he.h hs hf⟩
theorem qs_dput {o i v : Expr} {td ty tv : TE} {pos' : Pos} (hu : X.A.units + 1 < cLine) (ho : QE X o td) (hi : QE X i ty) (hv : QE X v tv) (hs : swapsWith v (some (.Subscript o i pos')) pos.line X.env = pure false := by rfl) : QS X (.Assign [.Subscript o i pos'] v pos) (sDPut td ty tv) := ⟨ps_dput hu ho.h hi.h hv.h hs⟩
theorem qs_expr (he : QE X e te) (hs : swapsWith e none pos.line X.env = pure false := by rfl) : QS X (.Expr e pos) (tDrop te) := ⟨ps_expr he.h hs⟩
theorem qs_ret (he : QE X e te) : QS X (.Return (some e) pos) (tRet te) := ⟨ps_ret he.h⟩
theorem qs_if {s1 s2 : List Stmt} {t u : TS} (hc : QT X c tA) (ha : QSs X s1 t) (hb : QSs X s2 u) : QS X (.If c s1 s2 pos) (tIfS tA t u) := ⟨ps_if hc.h ha.h hb.h⟩
theorem qs_while {body : List Stmt} {tb : TS} (hp : PassesOwn (model X.prog X.w) X.A X.env X.xe) (hc : QT X c tA) (hb : QSs X body tb) : QS X (.While c body [] pos) (tWhile tA tb) := ⟨ps_while hp hc.h hb.h⟩
theorem qs_for {tg iter : Expr} {body : List Stmt} {wi : TI} {g : TG} {tb : TS} (hp : PassesOwn (model X.prog X.w) X.A X.env X.xe) (hc : X.calm = true) (hi : QI X tg iter wi) (hg : QG X tg g) (hb : QSs X body tb)
    (hs : ∀ x, foldedSetIterable iter X.env x = pure x := by intro _; rfl) : QS X (.For tg iter body [] pos) (tFor wi g tb) := ⟨ps_for hp hc hi.h hg.h hb.h hs⟩
theorem qss_nil : QSs X [] tNext := ⟨pss_nil⟩
theorem qss_cons {s : Stmt} {rest : List Stmt} {t u : TS} (h1 : QS X s t) (h2 : QSs X rest u) : QSs X (s :: rest) (tSeq t u) := ⟨pss_cons h1.h h2.h⟩
theorem qss_one {s : Stmt} {t : TS} (h1 : QS X s t) : QSs X [s] t := ⟨pss_one h1.h⟩
theorem qop_add : QOp X (binaryOp .Add) (rI0 fun i j => .int (i + j)) := ⟨op_add⟩
theorem qop_sub : QOp X (binaryOp .Sub) (rI0 fun i j => .int (i - j)) := ⟨op_sub⟩
theorem qop_mul : QOp X (binaryOp .Mult) (rI CMul fun i j => .int (i * j)) := ⟨op_mul⟩
theorem qop_mod : QOp X (binaryOp .Mod) (rI (fun _ j => 0 < j) fun i j => .int (i % j)) := ⟨op_mod⟩
theorem qop_fdiv : QOp X (binaryOp .FloorDiv) (rI CDivB fun i j => .int (i / j)) := ⟨op_fdivB⟩
theorem qop_pow : QOp X (binaryOp .Pow) (rI CPow fun i j => .int (i ^ j.toNat)) := ⟨op_pow⟩
theorem qop_add_str : QOp X (binaryOp .Add) (fun x y H Q => ∃ i j, x = .str i ∧ y = .str j ∧ i.length + j.length ≤ sizeLine ∧ Q (.str (i ++ j)) H) := ⟨op_add_str⟩
theorem qop_cat : QOp X (binaryOp .Add) rCat := ⟨op_cat⟩
theorem qun_neg : QUn X (unaryOp .USub) (rU fun i => .int (-i)) := ⟨un_neg⟩
theorem qop_eq : QOp X (compareOp .Eq) rEq := ⟨op_eq⟩
theorem qop_lt : QOp X (compareOp .Lt) (rI0 fun i j => .bl (decide (i < j))) := ⟨op_lt⟩
theorem qop_le : QOp X (compareOp .LtE) (rI0 fun i j => .bl (decide (i ≤ j))) := ⟨op_le⟩
theorem qop_gt : QOp X (compareOp .Gt) (rI0 fun i j => .bl (decide (j < i))) := ⟨op_gt⟩
theorem qop_inTab {a : Addr} {D : List (Str × PyData)} (T : Tab X.prog X.w X.K a D) : QOp X (compareOp .In) (rInTab a D false) := ⟨op_inTab T⟩
theorem qix_list : QIx X (rIxL X.K) := ⟨ix_list⟩
theorem qix_tup : QIx X (rIxT X.K) := ⟨ix_tup⟩
theorem qix_str : QIx X rIxS := ⟨ix_str⟩
theorem qix_tab {a : Addr} {D : List (Str × PyData)} (T : Tab X.prog X.w X.K a D) : QIx X (rTab a D) := ⟨ix_tab T⟩
theorem qsl_list : QSl X (rSlL X.K) := ⟨sl_list⟩
theorem qsl_tup : QSl X (rSlT X.K) := ⟨sl_tup⟩
theorem qmt_append : QMt X "list.append" rAppend := ⟨mt_append⟩
theorem qmt_pop : QMt X "list.pop" rPop := ⟨mt_pop⟩
theorem qc_len_seq : QCall X (.builtin "len") (fun xs H Q => ∃ p ys, xs = [.ref p] ∧ (SqL X.K H p ys ∨ SqT X.K H p ys) ∧ Q (.int ys.length) H) := ⟨call_len_seq⟩
theorem qc_len_str : QCall X (.builtin "len") (fun xs H Q => ∃ z, xs = [.str z] ∧ z.length ≤ sizeLine ∧ Q (.int z.length) H) := ⟨call_len_str⟩
theorem qc_isi : QCall X (.builtin "isinstance") (fun xs H Q => ∃ x T t b, xs = [x, .ty T] ∧ TyOf X.K H x t ∧ PySem.W.kitOne X.K t (.type T) = some b ∧ Q (.bl b) H) := ⟨call_isi⟩
theorem qc_intB : QCall X (.type "int") (fun xs H Q => ∃ k, xs = [.bl k] ∧ Q (.int (if k then 1 else 0)) H) := ⟨fun pins s σ H xs us Q I r h => call_int1 pins s σ H xs us Q I r (.inr h)⟩
theorem qc_list_of : QCall X (.type "list") (fun xs H Q => ∃ p ys, xs = [.ref p] ∧ (SqL X.K H p ys ∨ SqT X.K H p ys) ∧ ∀ l, H l = none → Q (.ref l) (upd H l (.lst ys))) := ⟨call_list_of⟩
theorem nomarkQ (b : Expr) {op : CmpOp} (h : op ≠ .In := by decide) (h2 : op ≠ .NotIn := by decide) : behindInMarks op b = false := nomark b h h2
/-! ### .. with the written part named (for a comprehension's block) -/
theorem qix_listK {K : PySem.W.Frag} (e : X.K = K) : QIx X (rIxL K) := e ▸ qix_list
theorem qix_tupK {K : PySem.W.Frag} (e : X.K = K) : QIx X (rIxT K) := e ▸ qix_tup
theorem qsl_listK {K : PySem.W.Frag} (e : X.K = K) : QSl X (rSlL K) := e ▸ qsl_list
end
end L2

set_option maxRecDepth 100000
namespace L2
open PySem PySem.Spec PyProof.Rows

/-! ### the signs of a text, walked -/
noncomputable def Its (x : Str) : It := ⟨fun i _ => i < x.cps.size, fun i H v H' => H' = H ∧ ∃ c, x.cps[i]? = some c ∧ v = .str ⟨#[c]⟩, fun i _ => x.cps.size ≤ i⟩
theorem turn_str {P : Program} {w : World} {K : PySem.W.Frag} {tg : Expr} (it : Addr) (x : Str) (t : Tok) : Turn P w K tg (Its x) [it] it (fun i h => h.IsStrIter it (strIterType x) x t i) where
  mem := by simp
  obj := fun i h st b hb => by
    have e : b = it := by simpa using hb
    subst e
    obtain ⟨o, e, c, d⟩ := st
    exact ⟨o, e, fun v z => by rw [d] at z; cases z⟩
  keep := fun i h h' st k => let ⟨o, ho, r⟩ := st; ⟨o, k it (by simp) o ho, r⟩
  item := by
    intro X hP hw hK hc i pins s σ H E I hf st hg
    subst hP hw hK
    obtain ⟨f0, f1, f2, f3, f4, f5⟩ := hf it (by simp)
    have fin : ∀ (v : Value) (h' : Heap) (tk : Nat), SignAt x i v → h'.IsStrIter it (strIterType x) x t (i + 1) → (∀ b o, b ∉ [it] → s.heap.get? b = some o → h'.get? b = some o) →
        ∃ u, some v = some u ∧ wpAny (model X.prog X.w) X.A (letOwnedTupleGo tg (.ref it) u) (fun _ s2 => ∃ y H', Inv X pins σ H' s2 ∧ RelV y u ∧ (Its x).yld i H y H' ∧ s2.heap.IsStrIter it (strIterType x) x t (i + 1) ∧ ∀ b ∈ [it], H' b = none) E { s with heap := h', toks := tk } := by
      intro v h' tk hv st' kk
      obtain ⟨c, u, hx, rfl⟩ := hv
      have I1 : Inv X pins σ H { s with heap := h', toks := tk } := I.turned (fun b o hb e => kk b o (by simpa using hb) e) f0 f1 f3 f4 f5
      obtain ⟨o, e, cc, d⟩ := id st'
      refine ⟨_, rfl, go_of (s := { s with heap := h', toks := tk }) (n := strIterType x) e cc d ?_ ⟨.str ⟨#[c]⟩, H, I1, ⟨u, rfl⟩, ⟨rfl, c, hx, rfl⟩, st', fun b hb => (hf b hb).1⟩⟩
      unfold strIterType
      split <;> decide
    cases ha : x.cps.all (· < 128) with
    | true =>
      have et : strIterType x = "str_ascii_iterator" := by simp [strIterType, ha]
      rw [et] at st fin ⊢
      exact (Walks.strAscii (prog := X.prog) (w := X.w) (I.ok.hd hc) it x t).item i s _ _ hg st fun v h' tk hv st' kk => fin v h' tk hv st' kk
    | false =>
      have et : strIterType x = "str_iterator" := by simp [strIterType, ha]
      rw [et] at st fin ⊢
      exact (Walks.strWide (prog := X.prog) (w := X.w) (I.ok.hd hc) it x t).item i s _ _ hg st fun v h' tk hv st' kk => fin v h' tk hv st' kk
  done := by
    intro X hP hw hK hc i pins s σ H E I hf st hg
    subst hP hw hK
    obtain ⟨f0, f1, f2, f3, f4, f5⟩ := hf it (by simp)
    have hg' : x.cps.size ≤ i := hg
    have hn : x.cps[i]? = none := by simpa using hg'
    cases ha : x.cps.all (· < 128) with
    | true =>
      have et : strIterType x = "str_ascii_iterator" := by simp [strIterType, ha]
      rw [et] at st
      exact wpAny_pyNext_ascii_end (I.ok.hd hc) st hn fun h' eb => ⟨rfl, I.turned (t' := s.toks) (fun b o hb e => eb b o hb e) f0 f1 f3 f4 f5⟩
    | false =>
      have et : strIterType x = "str_iterator" := by simp [strIterType, ha]
      rw [et] at st
      exact wpAny_pyNext_wide_end (I.ok.hd hc) st hn fun h' eb => ⟨rfl, I.turned (t' := s.toks) (fun b o hb e => eb b o hb e) f0 f1 f3 f4 f5⟩
  self := fun A i s Q E st h => by
    cases ha : x.cps.all (· < 128) with
    | true =>
      have et : strIterType x = "str_ascii_iterator" := by simp [strIterType, ha]
      rw [et] at st
      exact wpAny_pyIter_striter_ascii st h
    | false =>
      have et : strIterType x = "str_iterator" := by simp [strIterType, ha]
      rw [et] at st
      exact wpAny_pyIter_striter_wide st h
noncomputable def iStr (tl : TE) : TI := fun σ H R => tl σ H fun v H1 => ∃ x, v = .str x ∧ R (Its x) H1
theorem pi_str {X : Cx} {tg l : Expr} {tl : TE} (hl : PE X l tl) : PI X tg l (iStr tl) := by
  intro pins s σ H R I h
  refine thn (hl pins s σ H _ I h) fun v s1 ⟨y, H1, I1, r1, q1⟩ => ?_
  obtain ⟨x, e, q⟩ := q1
  subst e
  obtain ⟨t, rfl⟩ := r1
  refine wpAny_pyIter_strU ?_
  refine ⟨s1.heap.objs.size, [s1.heap.objs.size], _, _, H1, rfl, I1.kept (t' := s1.toks) fun b o e => Heap.get?_push_of_some _ e, turn_str _ x t, ⟨_, Heap.get?_push_size _ rfl, rfl, rfl⟩, fun b hb => ?_, q⟩
  have e : b = s1.heap.objs.size := by simpa using hb
  subst e
  exact I1.fpOk (Nat.le_refl _) (I1.hok.fresh (Nat.le_refl _))
theorem comp_str {x : Str} {g : TG} {tc : TT} {te : TE} {σ : L2.St} {H : Hp} {D : Addr} {Q : VK} (Pv : Nat → L2.St → Hp → Prop) (h0 : Pv 0 σ (upd H D (.lst [])))
    (hs : ∀ i c σ' H', x.cps[i]? = some c → Pv i σ' H' → g (.str ⟨#[c]⟩) σ' H' fun σ3 H3 => tc σ3 H3 fun b H4 =>
      if b = true then te σ3 H4 fun y H5 => ∃ ys, H5 D = some (.lst ys) ∧ ys.length < sizeLine ∧ Pv (i + 1) σ3 (upd H5 D (.lst (ys ++ [y]))) else Pv (i + 1) σ3 H4) (hd : ∀ σ' H', Pv x.cps.size σ' H' → Q (.ref D) H') :
    CompW (Its x) g tc te D σ (upd H D (.lst [])) Q := by
  refine ⟨fun i m σ H => m = x.cps.size - i ∧ i ≤ x.cps.size ∧ Pv i σ H, ⟨x.cps.size, by simp, Nat.zero_le _, h0⟩, ?_⟩
  rintro i m σ H ⟨rfl, hi, p⟩
  by_cases hlt : i < x.cps.size
  · refine .inr ⟨hlt, Pv (i + 1), fun σ' H' p' => ⟨x.cps.size - (i + 1), by omega, rfl, hlt, p'⟩, fun y H' z => ?_⟩
    obtain ⟨e, c, hc, rfl⟩ := z
    subst e
    exact hs i c σ _ hc p
  · have e : i = x.cps.size := by omega
    subst e
    exact .inl ⟨Nat.le_refl _, hd σ H p⟩

/-! ### all, sum -/
theorem call_allB {X : Cx} (hc : X.calm = true) : CallR X (.builtin "all") (fun xs H Q => ∃ (p : Addr) (bs : List Bool), xs = [V.ref p] ∧ SqL X.K H p (bs.map V.bl) ∧ Q (.bl (bs.all id)) H) := by
  intro pins s σ H xs us Q I r h
  obtain ⟨p, bs, rfl, hp, q⟩ := h
  obtain ⟨u, rfl, ru⟩ := Vals.one r
  cases (show u = Value.ref p from ru)
  obtain ⟨its, rv, pl, hz⟩ := I.list hp
  have hlt : p < s.heap.objs.size := by obtain ⟨o, n, e, _⟩ := pl; exact Heap.lt_size e
  have hlen : its.length = bs.length := by rw [← rv.length, List.length_map]
  refine call_all_walk (wpAny_pyIter_list pl.isList ?_)
  refine ⟨s.heap.objs.size, _, _, its.toArray.size, (fun i v => its.toArray[i]? = some v), _, (fun i => bs.getD i false), rfl, Walks.list (A := X.A.in1) (I.ok.hd hc) s.heap.objs.size p (Nat.ne_of_lt hlt) its.toArray, ⟨⟨_, Heap.get?_push_size _ rfl, rfl, rfl⟩, pl.isList.push _⟩, ?_, ?_⟩
  · intro i v s' Q' E' hv hq
    have hi : i < bs.length := by
      rw [← hlen]
      have := (Array.getElem?_eq_some_iff.mp hv).1
      simpa using this
    obtain ⟨u, hu, ru⟩ := rv.get (i := i) (x := V.bl bs[i]) (by rw [List.getElem?_map, List.getElem?_eq_getElem hi]; rfl)
    have hv' : its[i]? = some v := by simpa using hv
    rw [hu] at hv'
    cases hv'
    cases (show v = Value.bool _ from ru)
    refine wpAny_truthy_bool ?_
    have e : bs.getD i false = bs[i] := by rw [List.getD_eq_getElem?_getD, List.getElem?_eq_getElem hi]; rfl
    have hq' : Q' (bs.getD i false) s' := hq
    rw [e] at hq'
    exact hq'
  · intro h' tk hk
    have e : (List.range its.toArray.size).all (fun i => bs.getD i false) = bs.all id := by
      rw [List.size_toArray, hlen]
      rw [Bool.eq_iff_iff, List.all_eq_true, List.all_eq_true]
      constructor
      · intro h b hb
        obtain ⟨i, hi, rfl⟩ := List.mem_iff_getElem.mp hb
        have := h i (List.mem_range.mpr hi)
        rw [List.getD_eq_getElem?_getD, List.getElem?_eq_getElem hi] at this
        exact this
      · intro h i hi
        have hi' := List.mem_range.mp hi
        rw [List.getD_eq_getElem?_getD, List.getElem?_eq_getElem hi']
        exact h _ (List.getElem_mem hi')
    rw [e]
    refine ⟨.bl _, H, I.kept (t' := tk) fun b o eb => hk b o ?_ (Heap.get?_push_of_some _ eb), rfl, q⟩
    intro z
    have : b = s.heap.objs.size := by simpa using z
    exact absurd (Heap.lt_size eb) (by rw [this]; exact Nat.lt_irrefl _)

/-! ### a tuple, n times -/
/-! ### wrappers -/
section
variable {X : Cx} {a b c e : Expr} {ta tb tc te : TE} {pos : Pos}
theorem qop_in_str : QOp X (compareOp .In) (fun x y H Q => ∃ i j, x = .str i ∧ y = .str j ∧ Q (.bl (!(Builtin.Str.occurrences j i 0 j.length 1).isEmpty)) H) := ⟨op_in_str⟩
theorem qi_str {tg l : Expr} {tl : TE} (hl : QE X l tl) : QI X tg l (iStr tl) := ⟨pi_str hl.h⟩
theorem qc_allB (hc : X.calm = true) : QCall X (.builtin "all") (fun xs H Q => ∃ (p : Addr) (bs : List Bool), xs = [V.ref p] ∧ SqL X.K H p (bs.map V.bl) ∧ Q (.bl (bs.all id)) H) := ⟨call_allB hc⟩
theorem qt_chain {op op' : CmpOp} {r r' : R2} (ho : QOp X (compareOp op) r) (ho' : QOp X (compareOp op') r') (ha : QE X a ta) (hb : QE X b tb) (hc : QE X c tc)
    (hm : lastMarks [op, op'] [b, c] = false := by with_unfolding_all rfl) : QT X (.Compare a [op, op'] [b, c] pos) (tTest (tChain r r' ta tb tc)) := ⟨pt_chain ho.h ho'.h ha.h hb.h hc.h hm⟩
end
end L2

set_option maxRecDepth 100000
namespace RB
open PySem L2 PySem.Spec PyProof.Rows

/-! ### heaps that keep what stands -/
/-- all but S is kept -/
noncomputable def But (S : List Addr) (H H' : Hp) : Prop := ∀ b o, b ∉ S → H b = some o → H' b = some o
theorem But.refl (S : List Addr) (H : Hp) : But S H H := fun _ _ _ h => h
theorem But.trans {S : List Addr} {H H1 H2 : Hp} (a : But S H H1) (b : But S H1 H2) : But S H H2 := fun c o n h => b c o n (a c o n h)
theorem But.mono {S S' : List Addr} {H H' : Hp} (a : But S H H') (h : ∀ b ∈ S, b ∈ S') : But S' H H' := fun c o n q => a c o (fun z => n (h c z)) q
theorem But.set {S : List Addr} {H : Hp} {p : Addr} (o : HO) (h : p ∈ S) : But S H (upd H p o) := fun b u n q => by rw [upd_ne (show b ≠ p from fun e => n (by rw [e]; exact h))]; exact q
theorem But.of_same {S : List Addr} {H H' : Hp} (h : Same H H') : But S H H' := fun b o _ q => h b o q
theorem same_new {H : Hp} {p : Addr} (o : HO) (h : H p = none) : Same H (upd H p o) := fun b u q => by rw [upd_ne (ne_of_none q h)]; exact q
/-- tuples are kept -/
noncomputable def Tups (H H' : Hp) : Prop := ∀ b xs, H b = some (.tup xs) → H' b = some (.tup xs)
theorem Same.tups {H H' : Hp} (h : Same H H') : Tups H H' := fun b xs q => h b _ q

/-! ### recipes -/
inductive Op where | plus | minus | times | most
  deriving DecidableEq
noncomputable def Op.word : Op → Str
  | .plus => "plus" | .minus => "minus" | .times => "times" | .most => "most"
inductive R where
  | num (n : Int) | rd (x : Str) | bin (op : Op) (a b : R) | pick (a b c : R) | cho (a : R) (ns : List Str)
noncomputable def R.depth : R → Nat
  | .num _ => 1
  | .rd _ => 1
  | .bin _ a b => max a.depth b.depth + 1
  | .pick a b c => max a.depth (max b.depth c.depth) + 1
  | .cho a _ => a.depth + 1
noncomputable def isLow (c : Nat) : Prop := 97 ≤ c ∧ c ≤ 122
noncomputable def GName (x : Str) : Prop := 1 ≤ x.length ∧ x.length ≤ 8 ∧ ∀ c ∈ x.cps.toList, isLow c
inductive IsR (H : Hp) : Addr → R → Prop where
  | num {a : Addr} {n : Int} (e : H a = some (.tup [.str "number", .int n])) : IsR H a (.num n)
  | rd {a : Addr} {x : Str} (e : H a = some (.tup [.str "read", .str x])) : IsR H a (.rd x)
  | bin {a b c : Addr} {op : Op} {r s : R} (e : H a = some (.tup [.str op.word, .ref b, .ref c])) (h1 : IsR H b r) (h2 : IsR H c s) : IsR H a (.bin op r s)
  | pick {a b c d : Addr} {r s t : R} (e : H a = some (.tup [.str "pick", .ref b, .ref c, .ref d])) (h1 : IsR H b r) (h2 : IsR H c s) (h3 : IsR H d t) : IsR H a (.pick r s t)
  | cho {a b c : Addr} {r : R} {ns : List Str} (e : H a = some (.tup [.str "choose", .ref b, .ref c])) (h1 : IsR H b r) (h2 : H c = some (.tup (ns.map V.str))) : IsR H a (.cho r ns)
theorem IsR.tups {H H' : Hp} (t : Tups H H') {a : Addr} {r : R} (h : IsR H a r) : IsR H' a r := by
  induction h with
  | num e => exact .num (t _ _ e)
  | rd e => exact .rd (t _ _ e)
  | bin e _ _ i1 i2 => exact .bin (t _ _ e) i1 i2
  | pick e _ _ _ i1 i2 i3 => exact .pick (t _ _ e) i1 i2 i3
  | cho e _ h2 i1 => exact .cho (t _ _ e) i1 (t _ _ h2)
theorem IsR.same {H H' : Hp} (t : Same H H') {a : Addr} {r : R} (h : IsR H a r) : IsR H' a r := h.tups (Same.tups t)
theorem R.depth_pos (r : R) : 1 ≤ r.depth := by cases r <;> simp [R.depth]



/-! ### decks -/
/-- law(script) is True -/
noncomputable def spLaw (K : PySem.W.Frag) : Sp := fun vs H Q _ => ∃ (a : Addr) (ns : List Int), vs = [.ref a] ∧ SqL K H a (ns.map V.int) ∧ ns.length ≤ 63 ∧ ∀ H', Q (.bl true) H'

/-! ### a def of the text -/
structure FnT (K : PySem.W.Frag) (mg : Str → Option Value) (x : Str) (st : Stmt) (ps : List Str) (f : Addr) (fd : FuncData) : Prop where
  F : Fun K x x st f fd
  b : Binds K fd ps []
  m : mg x = some (.ref f)
/-- none of these is a name of the text's own -/
structure Blt (mg : Str → Option Value) : Prop where
  b_len : mg "len" = none
  b_range : mg "range" = none
  b_str : mg "str" = none
  b_int : mg "int" = none
  b_list : mg "list" = none
  b_tuple : mg "tuple" = none
  b_isinstance : mg "isinstance" = none
  b_bool : mg "bool" = none
  b_dict : mg "dict" = none
  b_sum : mg "sum" = none
  b_all : mg "all" = none
  b_any : mg "any" = none
  b_max : mg "max" = none
  b_min : mg "min" = none
  b_sorted : mg "sorted" = none
  b_set : mg "set" = none
  b_enumerate : mg "enumerate" = none
  b_zip : mg "zip" = none
  b_reversed : mg "reversed" = none
  b_abs : mg "abs" = none
end RB
namespace RB
open PySem L2 PySem.Spec PyProof.Rows
theorem at_ok {xs : List Int} {i : Int} (h0 : 0 ≤ i) (h1 : i < ((xs.map V.int).length : Int)) : ∃ v j, atI (xs.map V.int) i = some (.int v) ∧ ixN (xs.map V.int).length i = some j ∧ j < xs.length ∧ ∀ u : Int, (xs.map V.int).set j (.int u) = (xs.set j u).map V.int := by
  have hl : (xs.map V.int).length = xs.length := List.length_map _
  obtain ⟨j, rfl⟩ := Int.eq_ofNat_of_zero_le h0
  have hj : j < xs.length := by omega
  refine ⟨xs[j], j, atI_nat (by rw [List.getElem?_map, List.getElem?_eq_getElem hj]; rfl), ?_, hj, fun u => ?_⟩
  · unfold ixN
    rw [if_pos h0, if_pos (by omega)]
    simp
  · rw [List.map_set]
end RB
namespace RB
open PySem L2 PySem.Spec PyProof.Rows
theorem But.upd {S : List Addr} {H H' : Hp} {p : Addr} (b : But S H H') (o : HO) (h : H p = none) : But S H (upd H' p o) := fun c u n q => by
  rw [upd_ne (ne_of_none q h)]; exact b c u n q
instance (x : Str) : Decidable (GName x) := by unfold GName isLow; exact inferInstance
theorem letters_cps : (Str.ofString "abcdefghijklmnopqrstuvwxyz").cps.toList = (List.range 26).map (· + 97) := by decide +kernel
end RB

namespace RB
open PySem L2 PySem.Spec PyProof.Rows
theorem never {P : Program} {w : World} {K : PySem.W.Frag} {mg : Str → Option Value} {base : Heap} {k : Nat} {f : Addr} {fd : FuncData} {ps : List Str} {sp : Sp} (no : ∀ vs H Q E, ¬ sp vs H Q E) : FnOk P w K mg base CX0 k f fd ps sp :=
  ⟨fun vs H Q E h => absurd h (no vs H Q E), fun A outer s H args us vs Q E _ _ _ _ h => absurd h (no vs H Q E)⟩
end RB
namespace RB
open PySem L2 PySem.Spec PyProof.Rows
end RB
namespace RB
open PySem L2 PySem.Spec PyProof.Rows
end RB
namespace RB
open PySem L2 PySem.Spec PyProof.Rows
end RB
namespace RB
open PySem L2 PySem.Spec PyProof.Rows
theorem tups_set {H : Hp} {p : Addr} {xs : List V} (o : HO) (h : H p = some (.lst xs)) : Tups H (upd H p o) := fun b ys q => by
  rw [upd_ne (ne_of q h (by intro z; cases z))]; exact q
theorem same_updN {H H' : Hp} {p : Addr} (o : HO) (h : H p = none) (s : Same H H') : Same H (upd H' p o) := fun b u q => by
  rw [upd_ne (ne_of_none q h)]; exact s b u q
end RB
namespace RB
open PySem L2 PySem.Spec PyProof.Rows
end RB

set_option maxRecDepth 100000
namespace RB
open PySem L2 PySem.Spec PyProof.Rows

/-! ### any thing, and whether it is a recipe -/
inductive Th where
  | non | bl (b : Bool) | int (i : Int) | str (x : Str) | tup (xs : List Th) | oth (T : String)
mutual
inductive IsTh (K : PySem.W.Frag) (H : Hp) : V → Th → Prop where
  | non : IsTh K H .non .non
  | bl (b : Bool) : IsTh K H (.bl b) (.bl b)
  | int (i : Int) : IsTh K H (.int i) (.int i)
  | str (x : Str) : IsTh K H (.str x) (.str x)
  | tup {a : Addr} {vs : List V} {ts : List Th} (e : H a = some (.tup vs)) (h : IsThs K H vs ts) : IsTh K H (.ref a) (.tup ts)
  | oth {a : Addr} {T : String} (h : TyOf K H (.ref a) (.type T)) (hT : T = "list" ∨ T = "dict") (keep : ∀ H', Same H H' → TyOf K H' (.ref a) (.type T)) : IsTh K H (.ref a) (.oth T)
inductive IsThs (K : PySem.W.Frag) (H : Hp) : List V → List Th → Prop where
  | nil : IsThs K H [] []
  | cons {v : V} {t : Th} {vs : List V} {ts : List Th} (h : IsTh K H v t) (r : IsThs K H vs ts) : IsThs K H (v :: vs) (t :: ts)
end
mutual
theorem IsTh.same {K : PySem.W.Frag} {H H' : Hp} (s : Same H H') : ∀ {v : V} {t : Th}, IsTh K H v t → IsTh K H' v t
  | _, _, .non => .non
  | _, _, .bl b => .bl b
  | _, _, .int i => .int i
  | _, _, .str x => .str x
  | _, _, .tup e h => .tup (s _ _ e) (IsThs.same s h)
  | _, _, .oth h hT k => .oth (k _ s) hT fun H2 s2 => k _ (s.trans s2)
theorem IsThs.same {K : PySem.W.Frag} {H H' : Hp} (s : Same H H') : ∀ {vs : List V} {ts : List Th}, IsThs K H vs ts → IsThs K H' vs ts
  | _, _, .nil => .nil
  | _, _, .cons h r => .cons (IsTh.same s h) (IsThs.same s r)
end
theorem IsThs.length {K : PySem.W.Frag} {H : Hp} : ∀ {vs : List V} {ts : List Th}, IsThs K H vs ts → vs.length = ts.length
  | _, _, .nil => rfl
  | _, _, .cons _ r => congrArg (· + 1) (IsThs.length r)
theorem IsThs.get {K : PySem.W.Frag} {H : Hp} : ∀ {vs : List V} {ts : List Th} {i : Nat} {v : V}, IsThs K H vs ts → vs[i]? = some v → ∃ t, ts[i]? = some t ∧ IsTh K H v t
  | _, _, _, _, .nil, e => by simp at e
  | _, _, 0, _, .cons h _, e => by simp at e; subst e; exact ⟨_, rfl, h⟩
  | _, _, i + 1, v, .cons _ r, e => by
    obtain ⟨t, h1, h2⟩ := IsThs.get (i := i) (v := v) r (by simpa using e)
    exact ⟨t, by simpa using h1, h2⟩
noncomputable def tyTh : Th → String
  | .non => "NoneType" | .bl _ => "bool" | .int _ => "int" | .str _ => "str" | .tup _ => "tuple" | .oth T => T
theorem IsTh.ty {K : PySem.W.Frag} {H : Hp} {v : V} {t : Th} (h : IsTh K H v t) : TyOf K H v (.type (tyTh t)) := by
  cases h with
  | non => exact .non
  | bl b => exact .bl b
  | int i => exact .int i
  | str x => exact .str x
  | tup e _ => exact .tup e
  | oth h _ _ => exact h
noncomputable def tys : List String := ["NoneType", "bool", "int", "str", "tuple", "list", "dict"]
noncomputable def subT (t c : String) : Bool := t == c || (t == "bool" && c == "int")
/-- what isinstance tells of built-in classes -/
noncomputable def Kinds (K : PySem.W.Frag) : Prop := ∀ t ∈ tys, ∀ c ∈ tys, PySem.W.kitOne K (.type t) (.type c) = some (subT t c)
theorem kinds_mk {K : PySem.W.Frag} (h : (tys.all fun t => tys.all fun c => PySem.W.kitOne K (.type t) (.type c) == some (subT t c)) = true) : Kinds K := fun t ht c hc => by
  have h1 := List.all_eq_true.mp h t ht
  have h2 := List.all_eq_true.mp h1 c hc
  exact eq_of_beq h2
theorem ty_mem {K : PySem.W.Frag} {H : Hp} {v : V} {t : Th} (h : IsTh K H v t) : tyTh t ∈ tys := by
  cases h with
  | oth _ hT _ => rcases hT with rfl | rfl <;> simp [tyTh, tys]
  | _ => simp [tyTh, tys]
theorem IsTh.isi {K : PySem.W.Frag} {H : Hp} {v : V} {t : Th} (h : IsTh K H v t) (k : Kinds K) {c : String} (hc : c ∈ tys) : PySem.W.kitOne K (.type (tyTh t)) (.type c) = some (subT (tyTh t) c) := k _ (ty_mem h) _ hc

noncomputable def nameT : Th → Bool
  | .str x => decide (GName x)
  | _ => false
noncomputable def wholeT : Th → Bool
  | .int _ => true
  | _ => false
noncomputable def choiceT : Th → Bool
  | .tup xs => decide (1 ≤ xs.length) && decide (xs.length ≤ 9) && xs.all nameT
  | _ => false
/-- the recipes within, if it has a recipe's shape -/
noncomputable def shapeT : Th → Option (List Th)
  | .tup [.str k, x] => if k = "number" then (if wholeT x = true then some [] else none) else if k = "read" then (if nameT x = true then some [] else none) else none
  | .tup [.str k, x, y] => if k = "choose" then (if choiceT y = true then some [x] else none) else if k = "plus" ∨ k = "minus" ∨ k = "times" ∨ k = "most" then some [x, y] else none
  | .tup [.str k, x, y, z] => if k = "pick" then some [x, y, z] else none
  | _ => none
noncomputable def szN : Nat → Th → Nat
  | 0, _ => 1000
  | n + 1, t => match shapeT t with
    | none => 1000
    | some ks => 1 + (ks.map (szN n)).sum
theorem szN_pos (n : Nat) (t : Th) : 1 ≤ szN n t := by
  cases n with
  | zero => simp [szN]
  | succ n =>
    unfold szN
    split <;> omega
noncomputable def withinD : List (Str × PyData) := [("number", .int 0), ("read", .int 0), ("plus", .int 2), ("minus", .int 2), ("times", .int 2), ("most", .int 2), ("pick", .int 3), ("choose", .int 1)]
/-! ### contracts -/
/-- no text within is longer than the model's line -/
inductive ShortT : Th → Prop where
  | non : ShortT .non
  | bl (b : Bool) : ShortT (.bl b)
  | int (i : Int) : ShortT (.int i)
  | str {x : Str} (h : x.length ≤ sizeLine) : ShortT (.str x)
  | tup {ts : List Th} (h : ∀ t ∈ ts, ShortT t) : ShortT (.tup ts)
  | oth (T : String) : ShortT (.oth T)
theorem ShortT.of {ts : List Th} (h : ShortT (.tup ts)) : ∀ t ∈ ts, ShortT t := by cases h; assumption
theorem ShortT.len {x : Str} (h : ShortT (.str x)) : x.length ≤ sizeLine := by cases h; assumption
noncomputable def spWhole (K : PySem.W.Frag) : Sp := fun vs H Q _ => ∃ v t, vs = [v] ∧ IsTh K H v t ∧ Q (.bl (wholeT t)) H
noncomputable def spIsName (K : PySem.W.Frag) : Sp := fun vs H Q _ => ∃ v t, vs = [v] ∧ IsTh K H v t ∧ ShortT t ∧ ∀ H', Same H H' → Q (.bl (nameT t)) H'
instance (c : Nat) : Decidable (isLow c) := by unfold isLow; exact inferInstance
theorem low_iff (c : Nat) : (!(Builtin.Str.occurrences (Str.ofString "abcdefghijklmnopqrstuvwxyz") ⟨#[c]⟩ 0 (Str.ofString "abcdefghijklmnopqrstuvwxyz").length 1).isEmpty) = decide (isLow c) := by
  rw [StrLaws.found_one, letters_cps]
  have : (c ∈ (List.range 26).map (· + 97)) ↔ isLow c := by
    rw [List.mem_map]
    unfold isLow
    constructor
    · rintro ⟨k, hk, rfl⟩
      have := List.mem_range.mp hk
      omega
    · intro h
      exact ⟨c - 97, List.mem_range.mpr (by omega), by omega⟩
  simp only [this]
noncomputable def spChoice (K : PySem.W.Frag) : Sp := fun vs H Q _ => ∃ v t, vs = [v] ∧ IsTh K H v t ∧ ShortT t ∧ ∀ H', Same H H' → Q (.bl (choiceT t)) H'
noncomputable def spShape (K : PySem.W.Frag) : Sp := fun vs H Q _ => ∃ v t, vs = [v] ∧ IsTh K H v t ∧ ShortT t ∧ ∀ H', Same H H' → Q (.bl (shapeT t).isSome) H'
noncomputable def spWithin (K : PySem.W.Frag) : Sp := fun vs H Q _ => ∃ v t ks H0, vs = [v] ∧ IsTh K H0 v t ∧ Same H0 H ∧ shapeT t = some ks ∧ ∀ a ws H', Same H H' → H' a = some (.tup ws) → IsThs K H0 ws ks → Q (.ref a) H'
noncomputable def spIsRec (K : PySem.W.Frag) : Sp := fun vs H Q _ => ∃ v t, vs = [v] ∧ IsTh K H v t ∧ ShortT t ∧ ∀ H', Same H H' → Q (.bl (decide (szN 8 t ≤ 100))) H'
theorem shape2 (k : Str) (x : Th) : shapeT (.tup [.str k, x]) = if k = "number" then (if wholeT x = true then some [] else none) else if k = "read" then (if nameT x = true then some [] else none) else none := rfl
theorem shape3 (k : Str) (x y : Th) : shapeT (.tup [.str k, x, y]) = if k = "choose" then (if choiceT y = true then some [x] else none) else if k = "plus" ∨ k = "minus" ∨ k = "times" ∨ k = "most" then some [x, y] else none := rfl
theorem shape4 (k : Str) (x y z : Th) : shapeT (.tup [.str k, x, y, z]) = if k = "pick" then some [x, y, z] else none := rfl
theorem shape_len1 {k : Str} {r : List Th} (hk : k = "number" ∨ k = "read") (h : r.length ≠ 1) : shapeT (.tup (.str k :: r)) = none := by
  rcases r with _ | ⟨x, _ | ⟨y, _ | ⟨z, _ | ⟨u, r⟩⟩⟩⟩
  · rfl
  · simp at h
  · rw [shape3]; rcases hk with rfl | rfl <;> rw [if_neg (by decide +kernel), if_neg (by decide +kernel)]
  · rw [shape4]; rcases hk with rfl | rfl <;> rw [if_neg (by decide +kernel)]
  · rfl
theorem shape_len2 {k : Str} {r : List Th} (hk : k = "choose" ∨ k = "plus" ∨ k = "minus" ∨ k = "times" ∨ k = "most") (h : r.length ≠ 2) : shapeT (.tup (.str k :: r)) = none := by
  rcases r with _ | ⟨x, _ | ⟨y, _ | ⟨z, _ | ⟨u, r⟩⟩⟩⟩
  · rfl
  · rw [shape2]; rcases hk with rfl | rfl | rfl | rfl | rfl <;> rw [if_neg (by decide +kernel), if_neg (by decide +kernel)]
  · simp at h
  · rw [shape4]; rcases hk with rfl | rfl | rfl | rfl | rfl <;> rw [if_neg (by decide +kernel)]
  · rfl
theorem shape_len3 {r : List Th} (h : r.length ≠ 3) : shapeT (.tup (.str "pick" :: r)) = none := by
  rcases r with _ | ⟨x, _ | ⟨y, _ | ⟨z, _ | ⟨u, r⟩⟩⟩⟩
  · rfl
  · rw [shape2, if_neg (by decide +kernel), if_neg (by decide +kernel)]
  · rw [shape3, if_neg (by decide +kernel), if_neg (by decide +kernel)]
  · simp at h
  · rfl
theorem shape_other {k : Str} {r : List Th} (h : k ≠ "number" ∧ k ≠ "read" ∧ k ≠ "choose" ∧ k ≠ "plus" ∧ k ≠ "minus" ∧ k ≠ "times" ∧ k ≠ "most" ∧ k ≠ "pick") : shapeT (.tup (.str k :: r)) = none := by
  obtain ⟨h1, h2, h3, h4, h5, h6, h7, h8⟩ := h
  rcases r with _ | ⟨x, _ | ⟨y, _ | ⟨z, _ | ⟨u, r⟩⟩⟩⟩
  · rfl
  · rw [shape2, if_neg h1, if_neg h2]
  · rw [shape3, if_neg h3, if_neg (by simp [h4, h5, h6, h7])]
  · rw [shape4, if_neg h8]
  · rfl
theorem shape_num (x : Th) : shapeT (.tup [.str "number", x]) = if wholeT x = true then some [] else none := by rw [shape2, if_pos rfl]
theorem shape_rd (x : Th) : shapeT (.tup [.str "read", x]) = if nameT x = true then some [] else none := by
  rw [shape2, if_neg (by decide +kernel), if_pos rfl]
theorem shape_cho (x y : Th) : shapeT (.tup [.str "choose", x, y]) = if choiceT y = true then some [x] else none := by rw [shape3, if_pos rfl]
theorem shape_op {k : Str} (hk : k = "plus" ∨ k = "minus" ∨ k = "times" ∨ k = "most") (x y : Th) : shapeT (.tup [.str k, x, y]) = some [x, y] := by
  rw [shape3, if_neg (by rcases hk with rfl | rfl | rfl | rfl <;> decide +kernel), if_pos hk]
theorem shape_pick (x y z : Th) : shapeT (.tup [.str "pick", x, y, z]) = some [x, y, z] := by rw [shape4, if_pos rfl]
noncomputable abbrev wLook (k : Str) : Option PyData := PySem.Spec.lookup (.str k) (withinD.map fun p => (PyData.str p.1, p.2))
theorem w_number : wLook "number" = some (.int 0) := by kernel_rfl
theorem w_read : wLook "read" = some (.int 0) := by kernel_rfl
theorem w_plus : wLook "plus" = some (.int 2) := by kernel_rfl
theorem w_minus : wLook "minus" = some (.int 2) := by kernel_rfl
theorem w_times : wLook "times" = some (.int 2) := by kernel_rfl
theorem w_most : wLook "most" = some (.int 2) := by kernel_rfl
theorem w_pick : wLook "pick" = some (.int 3) := by kernel_rfl
theorem w_choose : wLook "choose" = some (.int 1) := by kernel_rfl
theorem w_none {k : Str} (h : k ≠ "number" ∧ k ≠ "read" ∧ k ≠ "choose" ∧ k ≠ "plus" ∧ k ≠ "minus" ∧ k ≠ "times" ∧ k ≠ "most" ∧ k ≠ "pick") : wLook k = none := by
  obtain ⟨h1, h2, h3, h4, h5, h6, h7, h8⟩ := h
  simp only [wLook, withinD, List.map_cons, List.map_nil, PySem.Spec.lookup, PyProof.V.same_str]
  simp [Ne.symm h1, Ne.symm h2, Ne.symm h3, Ne.symm h4, Ne.symm h5, Ne.symm h6, Ne.symm h7, Ne.symm h8]
theorem shape_inv {t : Th} {ks : List Th} (h : shapeT t = some ks) : (∃ x, t = .tup [.str "number", x] ∧ ks = []) ∨ (∃ x, t = .tup [.str "read", x] ∧ ks = []) ∨ (∃ x y, t = .tup [.str "choose", x, y] ∧ ks = [x]) ∨
    (∃ (k : Str) (x y : Th), (k = "plus" ∨ k = "minus" ∨ k = "times" ∨ k = "most") ∧ t = .tup [.str k, x, y] ∧ ks = [x, y]) ∨ ∃ x y z, t = .tup [.str "pick", x, y, z] ∧ ks = [x, y, z] := by
  unfold shapeT at h
  split at h
  · rename_i k x
    split at h
    · rename_i hk
      split at h
      · cases h; exact .inl ⟨x, by rw [hk], rfl⟩
      · cases h
    · split at h
      · rename_i _ hk
        split at h
        · cases h; exact .inr (.inl ⟨x, by rw [hk], rfl⟩)
        · cases h
      · cases h
  · rename_i k x y
    split at h
    · rename_i hk
      split at h
      · cases h; exact .inr (.inr (.inl ⟨x, y, by rw [hk], rfl⟩))
      · cases h
    · split at h
      · rename_i _ hk
        cases h; exact .inr (.inr (.inr (.inl ⟨k, x, y, hk, rfl, rfl⟩)))
      · cases h
  · rename_i k x y z
    split at h
    · rename_i hk
      cases h; exact .inr (.inr (.inr (.inr ⟨x, y, z, by rw [hk], rfl⟩)))
    · cases h
  · cases h
theorem itB_t {b : Bool} {A B : Prop} (h : b = true) (hA : A) : if b = true then A else B := by rw [if_pos h]; exact hA
theorem itB_f {b : Bool} {A B : Prop} (h : b = false) (hB : B) : if b = true then A else B := by rw [if_neg (by rw [h]; exact Bool.false_ne_true)]; exact hB
theorem op_isSome {k : Str} (hk : k = "plus" ∨ k = "minus" ∨ k = "times" ∨ k = "most") {ts : List Th} {x : V} {vs : List V} (hl : vs.length = ts.length) : (shapeT (.tup (.str k :: ts))).isSome = decide (V.int (((x :: vs).length : Nat) : Int) = V.int (1 + 2)) := by
  by_cases h : ts.length = 2
  · rcases ts with _ | ⟨a, _ | ⟨b, _ | ⟨c, r⟩⟩⟩
    · simp at h
    · simp at h
    · rw [shape_op hk, decide_eq_true]
      · rfl
      · rw [List.length_cons, hl]; rfl
    · simp at h
  · rw [shape_len2 (.inr hk) h, decide_eq_false]
    · rfl
    · intro z
      have := V.int.inj z
      simp at this
      omega
theorem pick_isSome {ts : List Th} {x : V} {vs : List V} (hl : vs.length = ts.length) : (shapeT (.tup (.str "pick" :: ts))).isSome = decide (V.int (((x :: vs).length : Nat) : Int) = V.int (1 + 3)) := by
  by_cases h : ts.length = 3
  · rcases ts with _ | ⟨a, _ | ⟨b, _ | ⟨c, _ | ⟨d, r⟩⟩⟩⟩
    · simp at h
    · simp at h
    · simp at h
    · rw [shape_pick, decide_eq_true]
      · rfl
      · rw [List.length_cons, hl]; rfl
    · simp at h
  · rw [shape_len3 h, decide_eq_false]
    · rfl
    · intro z
      have := V.int.inj z
      simp at this
      omega
theorem len_of {x : V} {vs : List V} {n : Int} : (V.int (((x :: vs).length : Nat) : Int) = V.int n) ↔ (vs.length : Int) = n - 1 := by
  constructor
  · intro z
    have := V.int.inj z
    simp at this
    omega
  · intro z
    congr 1
    simp
    omega
theorem kids_short {t : Th} {ks : List Th} (h : shapeT t = some ks) (s : ShortT t) : ∀ k ∈ ks, ShortT k := by
  rcases shape_inv h with ⟨x, rfl, rfl⟩ | ⟨x, rfl, rfl⟩ | ⟨x, y, rfl, rfl⟩ | ⟨k, x, y, _, rfl, rfl⟩ | ⟨x, y, z, rfl, rfl⟩
  · simp
  · simp
  · intro k hk; exact s.of k (by simp at hk; simp [hk])
  · intro k' hk; exact s.of k' (by simp at hk; rcases hk with rfl | rfl <;> simp)
  · intro k' hk; exact s.of k' (by simp at hk; rcases hk with rfl | rfl | rfl <;> simp)
theorem kids_le {t : Th} {ks : List Th} (h : shapeT t = some ks) : ks.length ≤ 3 := by
  rcases shape_inv h with ⟨x, rfl, rfl⟩ | ⟨x, rfl, rfl⟩ | ⟨x, y, rfl, rfl⟩ | ⟨k, x, y, _, rfl, rfl⟩ | ⟨x, y, z, rfl, rfl⟩ <;> simp
/-- one row of the list of what is to do: its tuple, the thing, what it is, its depth -/
structure Job where
  a : Addr
  v : V
  t : Th
  d : Nat
structure JOk (K : PySem.W.Frag) (H0 H : Hp) (j : Job) : Prop where
  e : H j.a = some (.tup [j.v, .int j.d])
  i : IsTh K H0 j.v j.t
  s : ShortT j.t
  lo : 1 ≤ j.d
  hi : j.d ≤ 9
noncomputable def sumJ (js : List Job) : Nat := (js.map fun j => szN (9 - j.d) j.t).sum
theorem sumJ_snoc (js : List Job) (j : Job) : sumJ (js ++ [j]) = sumJ js + szN (9 - j.d) j.t := by
  unfold sumJ
  rw [List.map_append, List.sum_append]
  simp
theorem JOk.tups {K : PySem.W.Frag} {H0 H H' : Hp} (s : Tups H H') {j : Job} (h : JOk K H0 H j) : JOk K H0 H' j := ⟨s _ _ h.e, h.i, h.s, h.lo, h.hi⟩
theorem szN_some {d : Nat} {t : Th} {ks : List Th} (hd : d ≤ 8) (h : shapeT t = some ks) : szN (9 - d) t = 1 + (ks.map (szN (8 - d))).sum := by
  have e : 9 - d = (8 - d) + 1 := by omega
  rw [e]
  show (match shapeT t with | none => 1000 | some ks => 1 + (ks.map (szN (8 - d))).sum) = _
  rw [h]
theorem szN_none {d : Nat} {t : Th} (h : shapeT t = none) : 1000 ≤ szN d t := by
  cases d with
  | zero => exact Nat.le_refl _
  | succ d =>
    show 1000 ≤ (match shapeT t with | none => 1000 | some ks => 1 + (ks.map (szN d)).sum)
    rw [h]
    exact Nat.le_refl _
theorem Tups.trans {H H1 H2 : Hp} (a : Tups H H1) (b : Tups H1 H2) : Tups H H2 := fun c xs h => b c xs (a c xs h)
/-- an invariant that the stepping leaves alone -/
structure Wr (p : Prop) : Prop where
  h : p
end RB

set_option maxRecDepth 100000
namespace RB
open PySem L2 PySem.Spec PyProof.Rows
/-! ### recipes whose read names may be none -/
noncomputable def R.toTh : R → Th
  | .num n => .tup [.str "number", .int n]
  | .rd x => .tup [.str "read", .str x]
  | .bin op a b => .tup [.str op.word, a.toTh, b.toTh]
  | .pick a b c => .tup [.str "pick", a.toTh, b.toTh, c.toTh]
  | .cho a ns => .tup [.str "choose", a.toTh, .tup (ns.map Th.str)]
noncomputable def R.Fine : R → Prop
  | .num _ => True
  | .rd x => x.length ≤ 8 ∧ ∀ c ∈ x.cps.toList, c < 128
  | .bin _ a b => a.Fine ∧ b.Fine
  | .pick a b c => a.Fine ∧ b.Fine ∧ c.Fine
  | .cho a ns => a.Fine ∧ 1 ≤ ns.length ∧ ns.length ≤ 9 ∧ ∀ x ∈ ns, GName x
theorem strs_isThs {K : PySem.W.Frag} {H : Hp} : ∀ ns : List Str, IsThs K H (ns.map V.str) (ns.map Th.str)
  | [] => .nil
  | x :: r => .cons (.str x) (strs_isThs r)
theorem IsR.isTh {K : PySem.W.Frag} {H : Hp} {a : Addr} {r : R} (h : IsR H a r) : IsTh K H (.ref a) r.toTh := by
  induction h with
  | num e => exact .tup e (.cons (.str _) (.cons (.int _) .nil))
  | rd e => exact .tup e (.cons (.str _) (.cons (.str _) .nil))
  | bin e _ _ i1 i2 => exact .tup e (.cons (.str _) (.cons i1 (.cons i2 .nil)))
  | pick e _ _ _ i1 i2 i3 => exact .tup e (.cons (.str _) (.cons i1 (.cons i2 (.cons i3 .nil))))
  | cho e _ h2 i1 => exact .tup e (.cons (.str _) (.cons i1 (.cons (.tup h2 (strs_isThs _)) .nil)))
theorem line8 {n : Nat} (h : n ≤ 8) : n ≤ sizeLine := Nat.le_of_lt (small1000 (by omega))
theorem short_str {x : Str} (h : x.length ≤ 8) : ShortT (.str x) := .str (line8 h)
theorem word_len (op : Op) : op.word.length ≤ 8 := by cases op <;> decide +kernel
theorem R.short : ∀ (r : R), r.Fine → ShortT r.toTh
  | .num n, _ => .tup fun t ht => by
    rcases List.mem_cons.mp ht with rfl | ht
    · exact short_str (by decide +kernel)
    · have : t = .int n := by simpa using ht
      subst this; exact .int n
  | .rd x, h => .tup fun t ht => by
    rcases List.mem_cons.mp ht with rfl | ht
    · exact short_str (by decide +kernel)
    · have : t = .str x := by simpa using ht
      subst this; exact short_str h.1
  | .bin op a b, h => .tup fun t ht => by
    rcases List.mem_cons.mp ht with rfl | ht
    · exact short_str (word_len op)
    · rcases List.mem_cons.mp ht with rfl | ht
      · exact R.short a h.1
      · have : t = b.toTh := by simpa using ht
        subst this; exact R.short b h.2
  | .pick a b c, h => .tup fun t ht => by
    rcases List.mem_cons.mp ht with rfl | ht
    · exact short_str (by decide +kernel)
    · rcases List.mem_cons.mp ht with rfl | ht
      · exact R.short a h.1
      · rcases List.mem_cons.mp ht with rfl | ht
        · exact R.short b h.2.1
        · have : t = c.toTh := by simpa using ht
          subst this; exact R.short c h.2.2
  | .cho a ns, h => .tup fun t ht => by
    rcases List.mem_cons.mp ht with rfl | ht
    · exact short_str (by decide +kernel)
    · rcases List.mem_cons.mp ht with rfl | ht
      · exact R.short a h.1
      · have : t = .tup (ns.map Th.str) := by simpa using ht
        subst this
        refine .tup fun t ht => ?_
        obtain ⟨x, hx, rfl⟩ := List.mem_map.mp ht
        exact short_str (h.2.2.2 x hx).2.1
theorem choice_ok {ns : List Str} (h1 : 1 ≤ ns.length) (h2 : ns.length ≤ 9) (h : ∀ x ∈ ns, GName x) : choiceT (.tup (ns.map Th.str)) = true := by
  show (decide (1 ≤ (ns.map Th.str).length) && decide ((ns.map Th.str).length ≤ 9) && (ns.map Th.str).all nameT) = true
  rw [List.length_map, decide_eq_true h1, decide_eq_true h2, List.all_map]
  simp only [Bool.true_and, List.all_eq_true]
  intro x hx
  exact decide_eq_true (h x hx)
/-- the recipes within, if it is one's shape -/
noncomputable def R.kids : R → Option (List R)
  | .num _ => some []
  | .rd x => if GName x then some [] else none
  | .bin _ a b => some [a, b]
  | .pick a b c => some [a, b, c]
  | .cho a _ => some [a]
theorem R.shape (r : R) (h : r.Fine) : shapeT r.toTh = (r.kids).map (·.map R.toTh) := by
  cases r with
  | num n => exact (shape_num _).trans (by rfl)
  | rd x =>
    refine (shape_rd _).trans ?_
    show (if decide (GName x) = true then some [] else none) = Option.map _ (if GName x then some [] else none)
    by_cases g : GName x
    · rw [if_pos (decide_eq_true g), if_pos g]; rfl
    · rw [if_neg (by simpa using g), if_neg g]; rfl
  | bin op a b => exact (shape_op (by cases op <;> simp [Op.word]) _ _).trans (by rfl)
  | pick a b c => exact (shape_pick _ _ _).trans (by rfl)
  | cho a ns => exact (shape_cho _ _).trans (by rw [if_pos (choice_ok h.2.1 h.2.2.1 h.2.2.2)]; rfl)
noncomputable def szR (n : Nat) (r : R) : Nat := szN n r.toTh
theorem szR_succ (n : Nat) (r : R) (h : r.Fine) : szR (n + 1) r = match r.kids with | none => 1000 | some ks => 1 + (ks.map (szR n)).sum := by
  show (match shapeT r.toTh with | none => 1000 | some ks => 1 + (ks.map (szN n)).sum) = _
  rw [r.shape h]
  cases r.kids with
  | none => rfl
  | some ks =>
    show 1 + ((ks.map R.toTh).map (szN n)).sum = _
    rw [List.map_map]
    rfl
theorem depth_strs : ∀ l : List Str, PyData.depthAll (l.map PyData.str) ≤ 1
  | [] => by simp [PyData.depthAll]
  | c :: r => by
    have := depth_strs r
    simp [PyData.depthAll, PyData.depth]
    omega
end RB

set_option maxRecDepth 100000
namespace L2
open PySem PySem.Spec PyProof.Rows
theorem Fun.okQ {P : Program} {w : World} {K : PySem.W.Frag} {mg : Str → Option Value} {base : Heap} {x qual : Str} {st : Stmt} {f : Addr} {fd : FuncData} {N ps : List Str} {k : Nat} {sp : Sp} (F : Fun K x qual st f fd) (S : FnScope N ps (defScope st)) (len : ∀ vs H Q E, sp vs H Q E → vs.length = ps.length)
    (hbody : ∀ (cdv : Value) (A : Around) (outer : List Env) (s : Shared) (H : Hp) (vs : List V) (Q : VK) (E : XK), Room k (A.deeper (envOfC qual (defScope st) s.heap.objs.size f cdv)) → sp vs H Q E →
      ∃ t, QSs (cxOf CX0 P w K mg base N qual (defScope st) f cdv A outer s H E).nox (defBody st) t ∧ t { nx := fun _ H' => Q .non H', rt := Q } (start N vs) H) : FnOk P w K mg base CX0 (k + 1) f fd ps sp :=
  F.ok S len fun cdv A outer s H vs Q E hr hsp => let ⟨t, a, b⟩ := hbody cdv A outer s H vs Q E hr hsp; ⟨t, a.h, b⟩
end L2
namespace RB
open PySem L2 PySem.Spec PyProof.Rows
/-! ### the parts of a display or a call, by their kinds: the star's row is not reckoned anew for each -/
theorem star_C (value : Const) (k : Nat) (p : Pos) (es : List Expr) (env : Env) : starEach (.Constant value k p :: es) env = (false, eval (.Constant value k p) env) :: starEach es env := rfl
theorem qa_C {X : Cx} {value : Const} {k : Nat} {p : Pos} {es : List Expr} {te : TE} {t : TA} (ha : QE X (.Constant value k p) te) (hr : QA X es t) : QA X (.Constant value k p :: es) (tCons te t) := qa_cons ha hr (star_C value k p _ _)
theorem star_N (x : Str) (p : Pos) (es : List Expr) (env : Env) : starEach (.Name x p :: es) env = (false, eval (.Name x p) env) :: starEach es env := rfl
theorem qa_N {X : Cx} {x : Str} {p : Pos} {es : List Expr} {te : TE} {t : TA} (ha : QE X (.Name x p) te) (hr : QA X es t) : QA X (.Name x p :: es) (tCons te t) := qa_cons ha hr (star_N x p _ _)
theorem star_B (a : Expr) (op : Operator) (b : Expr) (p : Pos) (es : List Expr) (env : Env) : starEach (.BinOp a op b p :: es) env = (false, eval (.BinOp a op b p) env) :: starEach es env := rfl
theorem qa_B {X : Cx} {a : Expr} {op : Operator} {b : Expr} {p : Pos} {es : List Expr} {te : TE} {t : TA} (ha : QE X (.BinOp a op b p) te) (hr : QA X es t) : QA X (.BinOp a op b p :: es) (tCons te t) := qa_cons ha hr (star_B a op b p _ _)
theorem star_U (op : UnaryOp) (a : Expr) (p : Pos) (es : List Expr) (env : Env) : starEach (.UnaryOp op a p :: es) env = (false, eval (.UnaryOp op a p) env) :: starEach es env := rfl
theorem qa_U {X : Cx} {op : UnaryOp} {a : Expr} {p : Pos} {es : List Expr} {te : TE} {t : TA} (ha : QE X (.UnaryOp op a p) te) (hr : QA X es t) : QA X (.UnaryOp op a p :: es) (tCons te t) := qa_cons ha hr (star_U op a p _ _)
theorem star_K (a : Expr) (ops : List CmpOp) (cs : List Expr) (p : Pos) (es : List Expr) (env : Env) : starEach (.Compare a ops cs p :: es) env = (false, eval (.Compare a ops cs p) env) :: starEach es env := rfl
theorem qa_K {X : Cx} {a : Expr} {ops : List CmpOp} {cs : List Expr} {p : Pos} {es : List Expr} {te : TE} {t : TA} (ha : QE X (.Compare a ops cs p) te) (hr : QA X es t) : QA X (.Compare a ops cs p :: es) (tCons te t) := qa_cons ha hr (star_K a ops cs p _ _)
theorem star_T (xs : List Expr) (k : Nat) (p : Pos) (es : List Expr) (env : Env) : starEach (.Tuple xs k p :: es) env = (false, eval (.Tuple xs k p) env) :: starEach es env := rfl
theorem qa_T {X : Cx} {xs : List Expr} {k : Nat} {p : Pos} {es : List Expr} {te : TE} {t : TA} (ha : QE X (.Tuple xs k p) te) (hr : QA X es t) : QA X (.Tuple xs k p :: es) (tCons te t) := qa_cons ha hr (star_T xs k p _ _)
theorem star_L (xs : List Expr) (p : Pos) (es : List Expr) (env : Env) : starEach (.List xs p :: es) env = (false, eval (.List xs p) env) :: starEach es env := rfl
theorem qa_L {X : Cx} {xs : List Expr} {p : Pos} {es : List Expr} {te : TE} {t : TA} (ha : QE X (.List xs p) te) (hr : QA X es t) : QA X (.List xs p :: es) (tCons te t) := qa_cons ha hr (star_L xs p _ _)
theorem star_D (ks : List (Option Expr)) (xs : List Expr) (p : Pos) (es : List Expr) (env : Env) : starEach (.Dict ks xs p :: es) env = (false, eval (.Dict ks xs p) env) :: starEach es env := rfl
theorem qa_D {X : Cx} {ks : List (Option Expr)} {xs : List Expr} {p : Pos} {es : List Expr} {te : TE} {t : TA} (ha : QE X (.Dict ks xs p) te) (hr : QA X es t) : QA X (.Dict ks xs p :: es) (tCons te t) := qa_cons ha hr (star_D ks xs p _ _)
theorem star_S (a b : Expr) (p : Pos) (es : List Expr) (env : Env) : starEach (.Subscript a b p :: es) env = (false, eval (.Subscript a b p) env) :: starEach es env := rfl
theorem qa_S {X : Cx} {a b : Expr} {p : Pos} {es : List Expr} {te : TE} {t : TA} (ha : QE X (.Subscript a b p) te) (hr : QA X es t) : QA X (.Subscript a b p :: es) (tCons te t) := qa_cons ha hr (star_S a b p _ _)
theorem star_F (f : Expr) (xs : List Expr) (ks : List Keyword) (p : Pos) (es : List Expr) (env : Env) : starEach (.Call f xs ks p :: es) env = (false, eval (.Call f xs ks p) env) :: starEach es env := rfl
theorem qa_F {X : Cx} {f : Expr} {xs : List Expr} {ks : List Keyword} {p : Pos} {es : List Expr} {te : TE} {t : TA} (ha : QE X (.Call f xs ks p) te) (hr : QA X es t) : QA X (.Call f xs ks p :: es) (tCons te t) := qa_cons ha hr (star_F f xs ks p _ _)
theorem star_O (op : BoolOp) (xs : List Expr) (p : Pos) (es : List Expr) (env : Env) : starEach (.BoolOp op xs p :: es) env = (false, eval (.BoolOp op xs p) env) :: starEach es env := rfl
theorem qa_O {X : Cx} {op : BoolOp} {xs : List Expr} {p : Pos} {es : List Expr} {te : TE} {t : TA} (ha : QE X (.BoolOp op xs p) te) (hr : QA X es t) : QA X (.BoolOp op xs p :: es) (tCons te t) := qa_cons ha hr (star_O op xs p _ _)
theorem star_M (e : Expr) (gs : List Comprehension) (sc : Scope) (p : Pos) (es : List Expr) (env : Env) : starEach (.ListComp e gs sc p :: es) env = (false, eval (.ListComp e gs sc p) env) :: starEach es env := rfl
theorem qa_M {X : Cx} {e : Expr} {gs : List Comprehension} {sc : Scope} {p : Pos} {es : List Expr} {te : TE} {t : TA} (ha : QE X (.ListComp e gs sc p) te) (hr : QA X es t) : QA X (.ListComp e gs sc p :: es) (tCons te t) := qa_cons ha hr (star_M e gs sc p _ _)
end RB

set_option maxRecDepth 100000
namespace RB
open PySem L2 PySem.Spec PyProof.Rows
/-! ### a list held against [] -/
theorem qe_dnewK {X : Cx} {pos : Pos} : QE X (.Dict [] [] pos) tDNewK := ⟨pe_dnewK⟩

/-! ### things whose texts are short and plain -/

/-! ### things while the lists at S may be changed -/

/-! ### how many recipes -/
noncomputable def R.nodes : R → Nat
  | .num _ => 1
  | .rd _ => 1
  | .bin _ a b => 1 + a.nodes + b.nodes
  | .pick a b c => 1 + a.nodes + b.nodes + c.nodes
  | .cho a _ => 1 + a.nodes
/-! ### contracts of the law's own words over any thing -/
end RB

set_option maxRecDepth 100000
namespace L2
open PySem PySem.Spec PyProof.Rows
section
variable {X : Cx} {pins : List (Addr × Obj)} {σ : L2.St} {H : Hp} {s : Shared}
/-! ### texts: startswith from a place, a slice, the number that is written -/
end
/-! ### own objects -/
section
variable {X : Cx} {o e value : Expr} {es : List Expr} {f m : Str} {pos pos' apos : Pos} {ta tv : TE} {t : TA} {C fa : Addr} {CX : CXT} {k : Nat} {fd : FuncData} {ps : List Str} {sp : Sp} {dvs : List V} {ds : List Value} {E : XK}
theorem qs_never {st : Stmt} : QS X st tNever := ⟨ps_never⟩
end
end L2

set_option maxRecDepth 100000
namespace RB
open PySem L2 PySem.Spec PyProof.Rows
/-! ### a reader: its text and its place -/
end RB

set_option maxRecDepth 100000
namespace RB
open PySem L2 PySem.Spec PyProof.Rows
/-! ### the figures of a number -/
theorem lenL (x : Str) : x.cps.toList.length = x.length := by simp [Str.length]
end RB

set_option maxRecDepth 100000
namespace RB
open PySem L2 PySem.Spec PyProof.Rows
end RB

set_option maxRecDepth 100000
namespace RB
open PySem L2 PySem.Spec PyProof.Rows
/-! ### a recipe's core and the choices behind it -/
end RB

set_option maxRecDepth 100000
namespace RB
open PySem L2 PySem.Spec PyProof.Rows
end RB

set_option maxRecDepth 100000
namespace RB
open PySem L2 PySem.Spec PyProof.Rows
/-! ### rows of recipes, with their weight -/
end RB

set_option maxRecDepth 100000
namespace RB
open PySem L2 PySem.Spec PyProof.Rows
/-! ### recipes as data -/
noncomputable def R.dat : R → PyData
  | .num n => .tuple [.str "number", .int n]
  | .rd x => .tuple [.str "read", .str x]
  | .bin op a b => .tuple [.str op.word, a.dat, b.dat]
  | .pick a b c => .tuple [.str "pick", a.dat, b.dat, c.dat]
  | .cho a ns => .tuple [.str "choose", a.dat, .tuple (ns.map PyData.str)]
theorem IsR.dat {K : PySem.W.Frag} {H : Hp} {a : Addr} {r : R} (h : IsR H a r) : DatV K H (.ref a) r.dat := by
  induction h with
  | num e => exact .tup (SqT.of e) (.cons (.str _) (.cons (.int _) .nil))
  | rd e => exact .tup (SqT.of e) (.cons (.str _) (.cons (.str _) .nil))
  | bin e _ _ i1 i2 => exact .tup (SqT.of e) (.cons (.str _) (.cons i1 (.cons i2 .nil)))
  | pick e _ _ _ i1 i2 i3 => exact .tup (SqT.of e) (.cons (.str _) (.cons i1 (.cons i2 (.cons i3 .nil))))
  | cho e _ h2 i1 => exact .tup (SqT.of e) (.cons (.str _) (.cons i1 (.cons (.tup (SqT.of h2) (datVs_strs _)) .nil)))
theorem strOk_low {x : Str} (h : ∀ c ∈ x.cps.toList, c < 128) : PyData.strOk x = true := by
  show x.cps.all (· < 0x110000) = true
  rw [← Array.all_toList, List.all_eq_true]
  intro c hc
  exact decide_eq_true (by have := h c hc; omega)
theorem strOk_name {x : Str} (h : GName x) : PyData.strOk x = true := strOk_low fun c hc => by have := h.2.2 c hc; unfold isLow at this; omega
theorem strOk_word (op : Op) : PyData.strOk op.word = true := by cases op <;> decide +kernel
theorem lay_names : ∀ ns : List Str, (∀ x ∈ ns, GName x) → PyData.canLayAll0 (ns.map PyData.str) = true
  | [], _ => rfl
  | x :: r, h => by
    show (PyData.canLay0 (.str x) && PyData.canLayAll0 (r.map PyData.str)) = true
    rw [lay_names r fun y hy => h y (List.mem_cons_of_mem _ hy)]
    show (PyData.strOk x && true) = true
    rw [strOk_name (h x List.mem_cons_self)]; rfl
theorem R.dat_depth : ∀ r : R, r.dat.depth ≤ r.depth + 2
  | .num n => by simp [R.dat, R.depth, PyData.depth, PyData.depthAll]
  | .rd x => by simp [R.dat, R.depth, PyData.depth, PyData.depthAll]
  | .bin op a b => by
    have := R.dat_depth a
    have := R.dat_depth b
    simp only [R.dat, R.depth, PyData.depth, PyData.depthAll]; omega
  | .pick a b c => by
    have := R.dat_depth a
    have := R.dat_depth b
    have := R.dat_depth c
    simp only [R.dat, R.depth, PyData.depth, PyData.depthAll]; omega
  | .cho a ns => by
    have := R.dat_depth a
    have := depth_strs ns
    have := a.depth_pos
    simp only [R.dat, R.depth, PyData.depth, PyData.depthAll]; omega
/-- two things that are the same data -/
noncomputable def rSame (K : PySem.W.Frag) (neg : Bool) : R2 := fun x y H Q => ∃ d, DatV K H x d ∧ DatV K H y d ∧ SeqAt.shaped d = true ∧ Q (.bl (!neg)) H
theorem shaped_lay {d : PyData} (h : SeqAt.shaped d = true) : d.canLay0 = true := by
  have h' : (d.canLay0 && decide (d.depth ≤ 64)) = true := h
  rw [Bool.and_eq_true] at h'
  exact h'.1
theorem qop_eqSame {X : Cx} (hu : X.A.units + 64 < cLine) : QOp X (compareOp .Eq) (rSame X.K false) := ⟨fun pins s σ H x y v u Q I rx ry h => by
  obtain ⟨d, h1, h2, h3, q⟩ := h
  have e := PySem.SeqAt.eqv_refl d (shaped_lay h3)
  exact op_eqD hu pins s σ H x y v u Q I rx ry ⟨d, d, h1, h2, h3, h3, by rw [e]; exact q⟩⟩
theorem qop_neSame {X : Cx} (hu : X.A.units + 64 < cLine) : QOp X (compareOp .NotEq) (rSame X.K true) := ⟨fun pins s σ H x y v u Q I rx ry h => by
  obtain ⟨d, h1, h2, h3, q⟩ := h
  have e := PySem.SeqAt.eqv_refl d (shaped_lay h3)
  exact op_neD hu pins s σ H x y v u Q I rx ry ⟨d, d, h1, h2, h3, h3, by rw [e]; exact q⟩⟩
end RB

set_option maxRecDepth 100000
namespace L2
open PySem PySem.Spec PyProof.Rows
/-! ### an exception that flies -/
section
variable {X : Cx} {pins : List (Addr × Obj)} {σ : St} {H H' : Hp} {s s' : Shared} {a : Addr} {cls : Value}
end
section
variable {P : Program} {w : World} {K : PySem.W.Frag} {mg : Str → Option Value} {base : Heap} {N : List Str} {qual : Str} {scope : Scope} {f : Addr} {cd : Value} {A : Around} {outer : List Env} {s₀ : Shared} {H₀ : Hp} {E : XK}
end
end L2

set_option maxRecDepth 100000
namespace L2
open PySem PySem.Spec PyProof.Rows
section
variable {X : Cx} {pins : List (Addr × Obj)} {σ : St} {H H' : Hp} {s s' : Shared} {a : Addr} {cls : Value}
/-! ### try -/
end
section
variable {X : Cx} {x n : Str} {i : Nat} {C : Addr} {np hpos pos : Pos} {body suite : List Stmt} {b₀ : Stmt} {tb : (St → XK) → TS} {th : TS}
end
end L2

set_option maxRecDepth 100000
namespace L2
open PySem PySem.Spec PyProof.Rows PySem.W
section
variable {prog : Program} {w : World} {A : Around} {E : Value → Shared → Prop} {h : Heap} {g : Array GenState} {d : Drawn} {t : Nat} {os : OsState} {K : PySem.W.Frag} {a C : Addr} {o : Obj}
end
end L2

set_option maxRecDepth 100000
namespace L2
open PySem PySem.Spec PyProof.Rows
section
variable {X : Cx} {pins : List (Addr × Obj)} {σ : St} {H H' : Hp} {s s' : Shared}
/-! ### f"{x!r} .." of a short text: some text -/
end
/-! ### defs that raise; calls in a try's body -/
section
variable {P : Program} {w : World} {K : PySem.W.Frag} {mg : Str → Option Value} {base : Heap} {N : List Str} {qual : Str} {scope : Scope} {f : Addr} {cd : Value} {A : Around} {outer : List Env} {s₀ : Shared} {H₀ : Hp} {E : XK}
end
section
variable {X : Cx} {CX : CXT} {k : Nat} {f : Addr} {fd : FuncData} {ps : List Str} {sp : Sp} {dvs : List V} {ds : List Value} {E : St → XK} {x : Str} {p pos : Pos} {e : Expr} {es : List Expr} {t : TA}
end
end L2
namespace RB
open PySem L2 PySem.Spec PyProof.Rows
end RB

set_option maxRecDepth 100000
namespace RB
open PySem L2 PySem.Spec PyProof.Rows
/-! ### the reader's mirror: what is read of a row of signs, and what is left -/
/-! ### the reader's state: the rest of its text -/
end RB

set_option maxRecDepth 100000
namespace RB
open PySem L2 PySem.Spec PyProof.Rows
end RB

set_option maxRecDepth 100000
namespace RB
open PySem L2 PySem.Spec PyProof.Rows
end RB

set_option maxRecDepth 100000
namespace RB
open PySem L2 PySem.Spec PyProof.Rows
/-! ### names in what is read -/
/-! ### read_recipe of anything -/
/-! ### texts that write none -/
/-! ### sums of a -/
end RB

set_option maxRecDepth 100000
namespace L2
open PySem PySem.Spec PyProof.Rows
/-- a text k times -/
noncomputable def repS (t : Str) (k : Nat) : Str := ⟨((List.replicate k t.cps.toList).flatten).toArray⟩
theorem foldA (t : Array Nat) : ∀ (k : Nat) (acc : Array Nat), ((List.replicate k t).foldl (· ++ ·) acc).toList = acc.toList ++ (List.replicate k t.toList).flatten
  | 0, acc => by simp
  | k + 1, acc => by
    rw [List.replicate_succ, List.foldl_cons, foldA t k, Array.toList_append, List.replicate_succ, List.flatten_cons, List.append_assoc]
theorem mul_rep {t : Str} {n : Int} (h : 1 ≤ n) : Txt.mul t n = repS t n.toNat := by
  unfold Txt.mul
  rw [if_neg (by omega)]
  split
  · rename_i hc
    unfold repS
    rcases Bool.or_eq_true_iff.mp hc with z | z
    · have : n = 1 := by simpa using z
      subst this
      cases t; simp
    · have z' : t.length = 0 := by simpa using z
      have e : t.cps.toList = [] := by
        have := z'
        unfold Str.length at this
        simpa using this
      rw [e]
      cases t with
      | mk c =>
        have e' : c = #[] := by simpa using e
        subst e'
        simp
  · unfold repS
    have e := foldA t.cps n.toNat #[]
    generalize (List.replicate n.toNat t.cps).foldl (· ++ ·) #[] = A at e
    have : A = ((List.replicate n.toNat t.cps.toList).flatten).toArray := by
      have e2 := congrArg List.toArray e
      simpa using e2
    rw [this]
end L2
namespace RB
open PySem L2 PySem.Spec PyProof.Rows
theorem rep_list (t : Str) (k : Nat) : (repS t k).cps.toList = (List.replicate k t.cps.toList).flatten := by unfold repS; simp
theorem rep_len (t : Str) (k : Nat) : (repS t k).length = k * t.length := by
  rw [← lenL, rep_list, len_rep, lenL]
/-! ### rows of sums, as texts -/
noncomputable def LC (m d : Nat) : Prop := (m ≤ 128 ∧ d = 1) ∨ (m ≤ 64 ∧ d = 2) ∨ (m ≤ 32 ∧ d = 3) ∨ (m ≤ 16 ∧ d = 4) ∨ (m ≤ 8 ∧ d = 5) ∨ (m ≤ 4 ∧ d = 6) ∨ (m ≤ 2 ∧ d = 7) ∨ (m ≤ 1 ∧ d = 8)
theorem LC.next {m d : Nat} (h : LC m d) (h2 : 2 ≤ m) : LC ((m + 1) / 2) (d + 1) := by
  have c : ∀ k : Nat, m ≤ 2 * k → (m + 1) / 2 ≤ k := fun k hk => by omega
  rcases h with ⟨a, b⟩ | ⟨a, b⟩ | ⟨a, b⟩ | ⟨a, b⟩ | ⟨a, b⟩ | ⟨a, b⟩ | ⟨a, b⟩ | ⟨a, b⟩
  · exact .inr (.inl ⟨c 64 a, by rw [b]⟩)
  · exact .inr (.inr (.inl ⟨c 32 a, by rw [b]⟩))
  · exact .inr (.inr (.inr (.inl ⟨c 16 a, by rw [b]⟩)))
  · exact .inr (.inr (.inr (.inr (.inl ⟨c 8 a, by rw [b]⟩))))
  · exact .inr (.inr (.inr (.inr (.inr (.inl ⟨c 4 a, by rw [b]⟩)))))
  · exact .inr (.inr (.inr (.inr (.inr (.inr (.inl ⟨c 2 a, by rw [b]⟩))))))
  · exact .inr (.inr (.inr (.inr (.inr (.inr (.inr ⟨c 1 a, by rw [b]⟩))))))
  · omega
theorem LC.le {m d : Nat} (h : LC m d) : d ≤ 8 ∧ m ≤ 128 := by unfold LC at *; omega
theorem LC.le7 {m d : Nat} (h : LC m d) (h2 : 2 ≤ m) : d ≤ 7 := by unfold LC at *; omega
theorem rngH {m : Nat} (h : 2 ≤ m) : rngN 0 ((m : Int) - 1) 2 = m / 2 := by
  unfold rngN
  split <;> omega
end RB

set_option maxRecDepth 100000
namespace RB
open PySem L2 PySem.Spec PyProof.Rows PySem.NumText
/-! ### what the mirror reads, written again -/
end RB

set_option maxRecDepth 100000
namespace RB
open PySem L2 PySem.Spec PyProof.Rows PySem.NumText
/-! ### what is written is read -/
end RB

set_option maxRecDepth 100000
namespace L2
open PySem PySem.Spec PyProof.Rows
/-! ### try / except C, with no name -/
section
variable {X : Cx} {x : Str} {C : Addr} {np hpos pos : Pos} {body suite : List Stmt} {b₀ : Stmt} {tb : (St → XK) → TS} {th : TS}
end
end L2

set_option maxRecDepth 100000
namespace RB
open PySem L2 PySem.Spec PyProof.Rows
/-! ### a set of texts -/
/-- the texts in the order in which each is met first -/
noncomputable def metS : List Str → List Str → List Str
  | acc, [] => acc
  | acc, x :: r => if x ∈ acc then metS acc r else metS (acc ++ [x]) r
theorem metS_nodup : ∀ (r acc : List Str), (acc ++ r).Nodup → metS acc r = acc ++ r
  | [], acc, _ => by simp [metS]
  | x :: r, acc, h => by
    have hx : x ∉ acc := fun z => by
      rw [List.nodup_append] at h
      exact h.2.2 x z x List.mem_cons_self rfl
    rw [metS, if_neg hx, metS_nodup r (acc ++ [x]) (by simpa using h)]
    simp
section
variable {prog : Program} {w : World} {A : Around} {R : Result → Shared → Prop} {I : Addr} {fp wr : List Addr} {G : Array GenState → Array GenState → Prop} {n : Nat} {P : Nat → Value → Prop} {St : Nat → Shared → Prop}
/-- what holds of a set's object at S -/
noncomputable abbrev TSet (prog : Program) (w : World) (h : Heap) (S : Addr) (acc : List Str) : Prop := h.SetOf (strKind prog w) S (fun x => decide (x ∈ acc)) acc.length
theorem TSet.kept {h h' : Heap} {S : Addr} {acc : List Str} (t : TSet prog w h S acc) (k : ∀ o, h.get? S = some o → h'.get? S = some o) : TSet prog w h' S acc := by
  obtain ⟨o, es, ep, tb, ho, rest⟩ := t
  exact ⟨o, es, ep, tb, k o ho, rest⟩
theorem set_loop (W : WalksS prog w A.in1 I fp wr G n P St) (S : Addr) (hS : S ∉ fp) (ts : List Str) (hv : ∀ i v, P i v → ∃ x t, ts[i]? = some x ∧ v = .str x t) (hl : ts.length = n) (hb : n + 1 < scanBound) :
    ∀ (k i : Nat) (acc : List Str) (s : Shared), i + k = n → acc.length ≤ i → St i s → TSet prog w s.heap S acc →
      (∀ s', Moved (S :: wr) G s s' → TSet prog w s'.heap S (metS acc (ts.drop i)) → R (.ok (.ret .none)) s') →
      codeAny (model prog w) A (.builtin "set.update.loop" ⟨[.ref S, .ref I], []⟩) R s := by
  have nw : S ∉ wr := fun z => hS (W.sub S z)
  have up : ∀ b ∈ wr, b ∈ S :: wr := fun b z => List.mem_cons_of_mem S z
  intro k
  induction k with
  | zero =>
    intro i acc s ek _ st t fin
    have e : i = n := by omega
    subst e
    refine codeAny_builtin PyProof.Rows.F.entry_set_update_loop ?_
    rw [Around.under_plainId PyProof.Rows.F.plain_set_update_loop _]
    show wpAny _ A.in1 (pyNext (.ref I) >>= _) _ _ s
    refine wpAny_bind (W.done s _ _ st fun s1 mv => ?_)
    show wpAny _ A.in1 (ret Value.none) _ _ s1
    refine wpAny_pure (fin s1 (mv.mono up) ?_)
    rw [List.drop_eq_nil_of_le (by omega)]
    exact t.kept fun o z => mv.heap S o nw z
  | succ k ih =>
    intro i acc s ek ea st t fin
    refine codeAny_builtin PyProof.Rows.F.entry_set_update_loop ?_
    rw [Around.under_plainId PyProof.Rows.F.plain_set_update_loop _]
    show wpAny _ A.in1 (pyNext (.ref I) >>= _) _ _ s
    refine wpAny_bind (W.item i s _ _ (by omega) st fun v s1 pv st1 mv => ?_)
    obtain ⟨x, tk, hx, rfl⟩ := hv i v pv
    have t1 : TSet prog w s1.heap S acc := t.kept fun o z => mv.heap S o nw z
    have hd : ts.drop i = x :: ts.drop (i + 1) := by
      have hi : i < ts.length := by omega
      rw [List.drop_eq_getElem_cons hi]
      have : ts[i] = x := by rw [List.getElem?_eq_getElem hi] at hx; exact Option.some.inj hx
      rw [this]
    show wpAny _ A.in1 (holding [Value.str x tk] (setAdd S (.str x tk)) >>= _) _ _ s1
    refine wpAny_bind (wpAny_holding ?_)
    unfold setAdd
    refine wpAny_holding ?_
    refine wpAny_bind ((strKind prog w).pyHash (k := x) (strKind_is prog w x tk) ?_)
    refine wpAny_setAddHashed_of (knd := strKind prog w) (s := { s1 with toks := s1.toks + 1 }) (strKind_is prog w x tk) rfl t1 (by omega) fun h2 same t2 => ?_
    have key : ∃ acc', TSet prog w h2 S acc' ∧ acc'.length ≤ i + 1 ∧ metS acc (ts.drop i) = metS acc' (ts.drop (i + 1)) := by
      by_cases hm : x ∈ acc
      · refine ⟨acc, SetOf_congr t2 (fun y => ?_) (by simp [hm]), by omega, by rw [hd, metS, if_pos hm]⟩
        by_cases e : y = x
        · subst e; simp [hm]
        · simp [e]
      · refine ⟨acc ++ [x], SetOf_congr t2 (fun y => ?_) (by simp [hm]), by simp; omega, by rw [hd, metS, if_neg hm]⟩
        by_cases e : y = x
        · subst e; simp
        · simp [e]
    obtain ⟨acc', t3, l3, e3⟩ := key
    refine wpAny_pure ⟨plainId_quiet PyProof.Rows.F.plain_set_update_loop _, ih (i + 1) acc' _ (by omega) l3 (W.frame _ s1 _ _ st1 (Nat.le_succ _) fun b z o e => ?_) t3 fun s4 mv4 t4 => ?_⟩
    · rw [same.2 b fun y : b = S => hS (y ▸ z)]; exact e
    · refine fin s4 (Moved.trans W.gtrans ((mv.mono up).then_heap (Nat.le_succ _) fun b o z e => ?_) mv4) (by rw [e3]; exact t4)
      rw [same.2 b fun y : b = S => z (y ▸ List.mem_cons_self)]; exact e
end
end RB

set_option maxRecDepth 100000
namespace RB
open PySem L2 PySem.Spec PyProof.Rows
section
variable {prog : Program} {w : World} {A : Around} {E : Value → Shared → Prop} {s : Shared}
/-- a new set, bare -/
noncomputable abbrev bareSet (led : Bool) : Obj := { cls := .type "set", dict := none, data := .set #[] 0 (.fresh 0 0 led) }
/-- the texts of a row of values -/
noncomputable def TextsAt (its : Array Value) (ts : List Str) : Prop := ts.length = its.size ∧ ∀ (i : Nat) (v : Value), its[i]? = some v → ∃ x t, ts[i]? = some x ∧ v = .str x t
set_option maxHeartbeats 3200000 in
theorem call_set_texts {l : Addr} {its : Array Value} {ts : List Str} {Q : Value → Shared → Prop} (calm : A.handled = none) (hl : s.heap.IsList l its) (hi : TextsAt its ts) (room : its.size + 1 < scanBound)
    (fin : ∀ (h' : Heap) (tk : Nat), TSet prog w h' s.heap.objs.size (metS [] ts) → (∀ b o, s.heap.get? b = some o → h'.get? b = some o) → Q (.ref s.heap.objs.size) { s with heap := h', toks := tk }) :
    wpAny (model prog w) A (call (.type "set") [.ref l]) Q E s := by
  have mro := F.called_set.mro
  obtain ⟨c, tl, hmro⟩ := mro
  have made := F.called_set.made
  have sub := F.called_set.sub
  have a1 := F.called_set.notType
  have a2 := F.called_set.canCreate
  have a3 := F.typeCall_set_1 (.ref l)
  refine wpAny_call (codeAny_of_tree ?_)
  show wpAny _ _ (callAny (.type "set") _) _ _ _
  refine wpAny_pure ⟨Code.quiet_builtin _ (by decide +kernel), codeAny_builtin F.entry_type_call ?_⟩
  rw [Around.under_plain (weight_type_call_type "set" [.ref l] []) rfl]
  repeat (any_goals (first | wp_step | assumption))
  refine codeAny_mono (code_set_new_1 (.ref l) (E := E) (Q₁ := fun v s1 => ∃ led : Bool, v = .ref s.heap.objs.size ∧ s1 = { s with heap := s.heap.push (bareSet led) }) fun led => ⟨led, rfl, rfl⟩) fun r s1 hr => ?_
  cases r with
  | error e => exact hr
  | ok f =>
    cases f with
    | ret v =>
      obtain ⟨led, rfl, rfl⟩ := hr
      have own : (s.heap.push (bareSet led)).get? s.heap.objs.size = some (bareSet led) := Heap.get?_push_size _ rfl
      have ty : Shared.TypeIs { s with heap := s.heap.push (bareSet led) } (.ref s.heap.objs.size) "set" := ⟨_, own, rfl⟩
      have b1 := F.called_set.init.lookup
      have b2 := F.called_set.init.bind (.ref s.heap.objs.size)
      repeat (any_goals (first | wp_step | assumption))
      refine codeAny_mono (codeAny_call_builtin (R := wants (fun r s2 => r = .none ∧ ∃ h' tk, s2 = { s with heap := h', toks := tk } ∧ TSet prog w h' s.heap.objs.size (metS [] ts) ∧ ∀ b o, s.heap.get? b = some o → h'.get? b = some o) E) F.called_set.init.plain F.entry_set_init (check_set_init_1 ty ?_)) fun r2 s2 hr2 => ?_
      · have lst : (s.heap.push (bareSet led)).IsList l its := hl.push _
        obtain ⟨ol, hol, hcl, nl, hdl⟩ := hl
        obtain ⟨cl, dc, dt, sl⟩ := ol
        have hcl' : cl = .type "list" := hcl
        have hdl' : dt = .seq its nl := hdl
        subst hcl' hdl'
        have old : l < s.heap.objs.size := Heap.lt_size hol
        have hol' : (s.heap.push (bareSet led)).get? l = some { cls := .type "list", dict := dc, data := .seq its nl, slots := sl } := Heap.get?_push_of_some _ hol
        have c1 := F.sub_list_set
        have c2 := F.sub_list_frozenset
        have c3 : (Value.type "list" == Value.type "dict") = false := by decide
        unfold Builtin.«set.__init__» noKeywords Builtin.Frozenset.updateFrom
        generalize ePI : pyIter = PI
        wp_walk
        subst ePI
        refine wpAny_pyIter_list lst ?_
        refine wpAny_bind (wpAny_runValue ?_)
        have calm3 : A.in1.in1.in1.handled = none := by simp [calm]
        have sz : (s.heap.push (bareSet led)).objs.size = s.heap.objs.size + 1 := Heap.size_push _ _
        have apart : l ≠ (s.heap.push (bareSet led)).objs.size := by rw [sz]; exact Nat.ne_of_lt (Nat.lt_succ_of_lt old)
        have free : s.heap.objs.size ∉ [(s.heap.push (bareSet led)).objs.size, l] := by
          rw [sz]
          intro z
          rcases List.mem_cons.mp z with z | z
          · exact absurd z (Nat.ne_of_lt (Nat.lt_succ_self _))
          · exact absurd (List.mem_singleton.mp z) (Nat.ne_of_gt old)
        refine set_loop ((Walks.list calm3 _ l apart its).toS) s.heap.objs.size free ts (fun i v hv => hi.2 i v hv) hi.1 room its.size 0 [] _ (by omega) (Nat.zero_le _) ⟨⟨_, Heap.get?_push_size _ rfl, rfl, rfl⟩, lst.push _⟩ ?S0 ?fin
        case S0 =>
          refine SetOf_congr ((PyProof.Rows.setObjOf_fresh (knd := strKind prog w) led).setOf (Heap.get?_push_of_some _ own) (by unfold scanBound; omega)) (fun x => ?_) rfl
          simp
        case fin =>
          rintro ⟨h5, g5, d5, tk5, os5⟩ mv t5
          have e1 : g5 = s.gens := mv.gens
          have e2 : d5 = s.drawn := mv.drawn
          have e3 : os5 = s.os := mv.os
          subst e1 e2 e3
          show wpAny _ _ _ _ _ _
          refine wpAny_pure ?_
          show wpAny _ _ (ret Value.none) _ _ _
          refine wpAny_pure ⟨rfl, h5, tk5, rfl, t5, fun b o z => ?_⟩
          have hbl := Heap.lt_size z
          refine mv.heap b o (fun y => ?_) (Heap.get?_push_of_some _ (Heap.get?_push_of_some _ z))
          rw [sz] at y
          rcases List.mem_cons.mp y with y | y
          · exact absurd y (Nat.ne_of_lt hbl)
          · exact absurd (List.mem_singleton.mp y) (Nat.ne_of_lt (Nat.lt_succ_of_lt hbl))
      · cases r2 with
        | error e => exact hr2
        | ok f2 =>
          cases f2 with
          | ret v2 =>
            obtain ⟨rfl, h6, tk6, rfl, t6, k6⟩ := hr2
            repeat (any_goals (first | wp_step | assumption))
            exact fin h6 tk6 t6 k6
          | _ => exact hr2.elim
    | _ => exact hr.elim
end
end RB

set_option maxRecDepth 100000
namespace L2
open PySem PySem.Spec PyProof.Rows RB
section
variable {X : Cx}
/-- a set of texts, as met -/
noncomputable def TxS (X : Cx) (p : Addr) (ts : List Str) : HO := .ext fun h => RB.TSet X.prog X.w h p ts
theorem texts_at : ∀ {ts : List Str} {its : List Value}, Vals (ts.map V.str) its → ts.length = its.length ∧ ∀ (i : Nat) (v : Value), its[i]? = some v → ∃ x t, ts[i]? = some x ∧ v = .str x t
  | [], _, .nil => ⟨rfl, fun i v h => by simp at h⟩
  | x :: ts, _, .cons r rr => by
    obtain ⟨h1, h2⟩ := texts_at rr
    refine ⟨by simp [h1], fun i v h => ?_⟩
    cases i with
    | zero =>
      obtain ⟨t, e⟩ := r
      have : v = .str x t := by rw [← e]; simpa using h.symm
      exact ⟨x, t, rfl, this⟩
    | succ i =>
      obtain ⟨y, t, e1, e2⟩ := h2 i v (by simpa using h)
      exact ⟨y, t, by simpa using e1, e2⟩
theorem call_setT (hc : X.calm = true) : CallR X (.type "set") (fun xs H Q => ∃ a ts, xs = [.ref a] ∧ SqL X.K H a (ts.map V.str) ∧ ts.length ≤ 1000 ∧ ∀ p, H p = none → Q (.ref p) (upd H p (TxS X p (metS [] ts)))) := by
  intro pins s σ H xs us Q I r h
  obtain ⟨a, ts, rfl, hq, hl, q⟩ := h
  obtain ⟨u, rfl, rx⟩ := vals1 r
  cases rx
  obtain ⟨its, rv, pl, hz⟩ := I.list hq
  obtain ⟨e1, e2⟩ := texts_at rv
  have sz : its.toArray.size = its.length := List.size_toArray ..
  refine call_set_texts (ts := ts) (I.ok.hd hc) pl.isList ⟨by rw [sz]; exact e1, fun i v hv => e2 i v (by simpa using hv)⟩ (by rw [sz]; unfold scanBound; omega) fun h' tk t k => ?_
  refine ⟨.ref s.heap.objs.size, _, I.laid (t' := tk) k (Nat.le_refl _) (show ObjOk X.prog X.w _ h' _ (TxS X s.heap.objs.size (metS [] ts)) from ⟨t, ?_, fun h1 h2 t1 k1 => t1.kept k1⟩), rfl, q _ (I.hok.fresh (Nat.le_refl _))⟩
  obtain ⟨o, _, _, _, ho, _⟩ := t
  exact ⟨o, ho⟩
theorem qc_setT (hc : X.calm = true) : QCall X (.type "set") (fun xs H Q => ∃ a ts, xs = [.ref a] ∧ SqL X.K H a (ts.map V.str) ∧ ts.length ≤ 1000 ∧ ∀ p, H p = none → Q (.ref p) (upd H p (TxS X p (metS [] ts)))) := ⟨call_setT hc⟩
theorem call_lenT : CallR X (.builtin "len") (fun xs H Q => ∃ a ts, xs = [.ref a] ∧ H a = some (TxS X a ts) ∧ Q (.int (ts.length : Nat)) H) := by
  intro pins s σ H xs us Q I r h
  obtain ⟨a, ts, rfl, ha, q⟩ := h
  obtain ⟨u, rfl, rx⟩ := vals1 r
  cases rx
  obtain ⟨⟨o, es, ep, tb, ho, hx, hd, _, _, hb, hf, hn⟩, _⟩ := (show ObjOk X.prog X.w H s.heap a (TxS X a ts) from I.hok a _ ha)
  have hfit : (es.size : Int) < 2 ^ 63 := by unfold scanBound at hb; omega
  exact call_len_set ho hx hd hf hfit ⟨.int ((es.size : Nat) : Int), H, I.tok _, ⟨_, rfl⟩, by rw [hn]; exact q⟩
theorem qc_lenT : QCall X (.builtin "len") (fun xs H Q => ∃ a ts, xs = [.ref a] ∧ H a = some (TxS X a ts) ∧ Q (.int (ts.length : Nat)) H) := ⟨call_lenT⟩
/-! ### startswith, endswith of a whole text -/
end
end L2

set_option maxRecDepth 100000
namespace L2
open PySem PySem.Spec PyProof.Rows
section
variable {X : Cx} {pins : List (Addr × Obj)} {σ : List (Option V)} {H : Hp} {s : Shared} {h' : Heap}
end
/-! ### for .., .. in zip(a, b) -/
end L2

set_option maxRecDepth 100000
namespace L2
open PySem PySem.Spec PyProof.Rows
section
variable {prog : Program} {w : World} {A : Around} {E : Value → Shared → Prop}
/-! ### a, b, c = a list -/
theorem draw_lst {it l : Addr} {its : Array Value} (ne : l ≠ it) : ∀ (n i : Nat) (s : Shared) (Q : List Value → Shared → Prop), i + n ≤ its.size → s.heap.IsListIter it l i → s.heap.IsList l its →
    (∀ h', h'.IsListIter it l (i + n) → h'.IsList l its → (∀ b o, b ≠ it → s.heap.get? b = some o → h'.get? b = some o) → Q ((its.toList.drop i).take n) { s with heap := h' }) → wpAny (model prog w) A (draw (.ref it) n) Q E s
  | 0, i, s, Q, _, st, hl, fin => wpAny_pure (by simpa using fin s.heap st hl fun _ _ _ e => e)
  | n + 1, i, s, Q, le, st, hl, fin => by
    have lt : i < its.size := by omega
    show wpAny _ _ (pyNext (.ref it) >>= _) Q E s
    refine wpAny_bind (wpAny_pyNext_list_item st hl (x := its[i]) (Array.getElem?_eq_getElem lt) fun h1 st1 sb => ?_)
    have hl1 : h1.IsList l its := hl.at fun o e => (sb.2 l ne).trans e
    refine wpAny_bind (wpAny_holding (draw_lst ne n (i + 1) _ _ (by omega) st1 hl1 fun h2 st2 hl2 k2 => wpAny_pure ?_))
    have e1 : its.toList.drop i = its[i] :: its.toList.drop (i + 1) := by simp [List.drop_eq_getElem_cons, lt]
    have q := fin h2 (by rw [show i + (n + 1) = i + 1 + n by omega]; exact st2) hl2 fun b o hb e => k2 b o hb ((sb.2 b hb).trans e)
    rw [e1, List.take_succ_cons] at q
    exact q
theorem unpack_lst {l : Addr} {its : Array Value} {s : Shared} {targets : List (Bool × (Value → Sem Unit))} {Q : Unit → Shared → Prop} (calm : A.handled = none) (hl : s.heap.IsList l its) (hn : targets.length = its.size) (hs : targets.findIdx? (·.1) = none)
    (fin : ∀ h', (∀ b o, s.heap.get? b = some o → h'.get? b = some o) → wpAny (model prog w) A (assignInOrder (targets.map (·.2)) its.toList) Q E { s with heap := h' }) : wpAny (model prog w) A (unpack (.ref l) targets) Q E s := by
  have ne : l ≠ s.heap.objs.size := by obtain ⟨o, ho, _⟩ := hl; exact Nat.ne_of_lt (Heap.lt_size ho)
  unfold unpack
  rw [hn, hs]
  refine wpAny_bind (wpAny_holding ?_)
  unfold unpackItems
  refine wpAny_bind ?_
  unfold notIterableAtAll
  refine wpAny_bind (wpAny_specialOf hl.typeIs slot_list_iter.lookup (wpAny_pure ?_))
  rw [if_neg (by decide)]
  refine wpAny_bind (wpAny_holding (wpAny_pyIter_list hl ?_))
  refine wpAny_bind (wpAny_holding (draw_lst ne its.size 0 _ _ (by omega) ⟨_, Heap.get?_push_size _ rfl, rfl, rfl⟩ (hl.push _) fun h1 st1 hl1 k1 => ?_))
  have all : (its.toList.drop 0).take its.size = its.toList := by simp [List.take_of_length_le]
  rw [all, if_neg (by simp)]
  refine wpAny_bind (wpAny_holding (wpAny_pyNext_list_end calm st1 hl1 (by simp) fun h2 k2 => ?_))
  rw [if_neg (by simp)]
  refine wpAny_pure (fin h2 fun b o e => ?_)
  have nb : b ≠ s.heap.objs.size := Nat.ne_of_lt (Heap.lt_size e)
  exact k2 b o nb (k1 b o nb (Heap.get?_push_of_some _ e))
end
section
variable {X : Cx} {pos : Pos}
noncomputable def gLst (K : PySem.W.Frag) (n : Nat) (t : TGs) : TG := fun v σ H Q => ∃ a xs, v = .ref a ∧ SqL K H a xs ∧ xs.length = n ∧ t xs σ H Q
theorem pg_lst {es : List Expr} {k : Nat} {t : TGs} {n : Nat} (hc : X.calm = true) (h : PGs X es t) (hn : (assignEach es X.env).length = n := by rfl) (hst : (assignEach es X.env).findIdx? (·.1) = none := by rfl) : PG X (.Tuple es k pos) (gLst X.K n t) := by
  intro pins s σ H v u Q I r hw
  obtain ⟨a, xs, rfl, hq, hl, hw⟩ := hw
  cases r
  obtain ⟨its, rv, pl, hz⟩ := I.list hq
  rw [assign_Tuple]
  refine wpAny_bind (wpAny_standAt (unpack_lst (I.ok.hd hc) pl.isList (by simp [hn, ← hl, rv.length]) hst fun h' k => ?_))
  exact h pins _ σ H xs _ Q (I.kept (t' := s.toks) k) (by simpa using rv) hw
theorem qg_lst {es : List Expr} {k : Nat} {t : TGs} {n : Nat} (hc : X.calm = true) (h : QGs X es t) (hn : (assignEach es X.env).length = n := by rfl) (hst : (assignEach es X.env).findIdx? (·.1) = none := by rfl) : QG X (.Tuple es k pos) (gLst X.K n t) := ⟨pg_lst hc h.h hn hst⟩
theorem qc_max2 (hc : X.calm = true) : QCall X (.builtin "max") (fun xs H Q => ∃ i j, xs = [.int i, .int j] ∧ Q (.int (if j > i then j else i)) H) := ⟨call_max2 hc⟩
end
end L2
namespace RB
open PySem L2 PySem.Spec PyProof.Rows
end RB

set_option maxRecDepth 100000
namespace L2
open PySem PySem.Spec PyProof.Rows
end L2
namespace RB
open PySem L2 PySem.Spec PyProof.Rows
/-- a row of recipes -/
inductive IsRs (H : Hp) : List Addr → List R → Prop where
  | nil : IsRs H [] []
  | cons {a : Addr} {r : R} {as : List Addr} {rs : List R} (h : IsR H a r) (t : IsRs H as rs) : IsRs H (a :: as) (r :: rs)
theorem IsRs.tups {H H' : Hp} (t : Tups H H') {as : List Addr} {rs : List R} (h : IsRs H as rs) : IsRs H' as rs := by
  induction h with
  | nil => exact .nil
  | cons h _ ih => exact .cons (h.tups t) ih
theorem IsRs.snoc {H : Hp} {a : Addr} {r : R} (h : IsR H a r) : ∀ {as : List Addr} {rs : List R}, IsRs H as rs → IsRs H (as ++ [a]) (rs ++ [r])
  | _, _, .nil => .cons h .nil
  | _, _, .cons h' t => .cons h' (t.snoc h)
theorem IsRs.length {H : Hp} {as : List Addr} {rs : List R} (h : IsRs H as rs) : as.length = rs.length := by
  induction h with
  | nil => rfl
  | cons _ _ ih => simp [ih]
end RB

set_option maxRecDepth 100000
namespace RB
open PySem L2 PySem.Spec PyProof.Rows
end RB

set_option maxRecDepth 100000
namespace RB
open PySem L2 PySem.Spec PyProof.Rows
end RB

set_option maxRecDepth 100000
namespace RB
open PySem L2 PySem.Spec PyProof.Rows
/-! ### reads: rows of (name, number) -/
noncomputable abbrev Rdp := Str × Int
noncomputable def rdV (p : Rdp) : List V := [.str p.1, .int p.2]
inductive IsRds (H : Hp) : List Addr → List Rdp → Prop where
  | nil : IsRds H [] []
  | cons {a : Addr} {p : Rdp} {as : List Addr} {ps : List Rdp} (h : H a = some (.tup (rdV p))) (t : IsRds H as ps) : IsRds H (a :: as) (p :: ps)
theorem IsRds.tups {H H' : Hp} (t : Tups H H') {as : List Addr} {ps : List Rdp} (h : IsRds H as ps) : IsRds H' as ps := by
  induction h with
  | nil => exact .nil
  | cons h _ ih => exact .cons (t _ _ h) ih
theorem IsRds.same {H H' : Hp} (s : Same H H') {as : List Addr} {ps : List Rdp} (h : IsRds H as ps) : IsRds H' as ps := h.tups (Same.tups s)
theorem IsRds.length {H : Hp} {as : List Addr} {ps : List Rdp} (h : IsRds H as ps) : as.length = ps.length := by
  induction h with
  | nil => rfl
  | cons _ _ ih => simp [ih]
theorem IsRds.snoc {H : Hp} {a : Addr} {p : Rdp} (h : H a = some (.tup (rdV p))) : ∀ {as : List Addr} {ps : List Rdp}, IsRds H as ps → IsRds H (as ++ [a]) (ps ++ [p])
  | _, _, .nil => .cons h .nil
  | _, _, .cons h' t => .cons h' (t.snoc h)
theorem IsRds.take {H : Hp} {as : List Addr} {ps : List Rdp} (h : IsRds H as ps) : ∀ k, IsRds H (as.take k) (ps.take k) := by
  induction h with
  | nil => intro k; rw [List.take_nil, List.take_nil]; exact .nil
  | cons h _ ih =>
    intro k
    cases k with
    | zero => exact .nil
    | succ k => exact .cons h (ih k)
theorem IsRds.drop {H : Hp} {as : List Addr} {ps : List Rdp} (h : IsRds H as ps) : ∀ k, IsRds H (as.drop k) (ps.drop k) := by
  induction h with
  | nil => intro k; rw [List.drop_nil, List.drop_nil]; exact .nil
  | cons h t ih =>
    intro k
    cases k with
    | zero => exact .cons h t
    | succ k => exact ih k
theorem IsRds.get {H : Hp} {as : List Addr} {ps : List Rdp} (h : IsRds H as ps) : ∀ (i : Nat) (a : Addr), as[i]? = some a → ∃ p, ps[i]? = some p ∧ H a = some (.tup (rdV p)) := by
  induction h with
  | nil => intro i a e; simp at e
  | @cons b p as ps h t ih =>
    intro i a e
    cases i with
    | zero => have : b = a := by simpa using e
              subst this; exact ⟨_, rfl, h⟩
    | succ i => exact ih i a (by simpa using e)
/-- the k-th of a row of refs -/
theorem ref_at {as : List Addr} {i : Nat} {x : V} (h : (as.map V.ref)[i]? = some x) : ∃ a, as[i]? = some a ∧ x = .ref a := by
  rw [List.getElem?_map] at h
  cases e : as[i]? with
  | none => rw [e] at h; cases h
  | some a => rw [e] at h; cases h; exact ⟨a, rfl, rfl⟩
theorem three_cut {as : List Addr} {i : Nat} (h : 3 * i < as.length) : cutV (as.map V.ref) (some (0 + (i : Int) * 3)) (some (0 + (i : Int) * 3 + 3)) = ((as.drop (3 * i)).take 3).map V.ref := by
  unfold cutV
  have e0 : (0 + (i : Int) * 3) = ((3 * i : Nat) : Int) := by omega
  have e3 : (0 + (i : Int) * 3 + 3) = ((3 * i + 3 : Nat) : Int) := by omega
  rw [e3, e0, HT.sIx_nat, HT.sIx_nat, List.length_map, List.map_take, List.map_drop]
  have e1 : min (3 * i) as.length = 3 * i := by omega
  rw [e1]
  apply List.ext_getElem?
  intro j
  rw [List.getElem?_take, List.getElem?_take]
  by_cases hj : j < 3
  · rw [if_pos hj]
    by_cases hk : j < min (3 * i + 3) as.length - 3 * i
    · rw [if_pos hk]
    · rw [if_neg hk]
      symm
      rw [List.getElem?_drop, List.getElem?_eq_none_iff, List.length_map]
      omega
  · rw [if_neg hj, if_neg (by omega)]
theorem rng3 (n : Nat) : rngN 0 (n : Int) 3 = (n + 2) / 3 := by
  unfold rngN
  split <;> omega
theorem cut_to {vs : List V} {k : Nat} : cutV vs none (some (k : Int)) = vs.take k := by
  unfold cutV
  rw [HT.sIx_nat, show HT.sIx vs.length 0 none = 0 from rfl, List.drop_zero, Nat.sub_zero]
  by_cases h : k ≤ vs.length
  · rw [show min k vs.length = k by omega]
  · rw [show min k vs.length = vs.length by omega, List.take_length, List.take_of_length_le (by omega)]
theorem cut_from' {vs : List V} {k : Nat} : cutV vs (some (k : Int)) none = vs.drop k := by
  unfold cutV
  rw [HT.sIx_nat]
  show (vs.drop (min k vs.length)).take (vs.length - min k vs.length) = _
  rw [List.take_of_length_le (by rw [List.length_drop]; omega)]
  by_cases h : k ≤ vs.length
  · rw [show min k vs.length = k by omega]
  · rw [show min k vs.length = vs.length by omega, List.drop_length, List.drop_of_length_le (by omega)]
end RB
namespace RB
open PySem L2 PySem.Spec PyProof.Rows
theorem atI_m1 {xs : List V} (h : 1 ≤ xs.length) : atI xs (-1) = xs[xs.length - 1]? := by
  have e : ixN xs.length (-1) = some (xs.length - 1) := by
    unfold ixN
    rw [if_neg (by decide), if_pos (by omega)]
    congr 1
    omega
  unfold atI
  rw [e]; rfl
end RB

set_option maxRecDepth 100000
namespace L2
open PySem PySem.Spec PyProof.Rows
theorem mul_rep0 {t : Str} {n : Int} (h : 0 ≤ n) : Txt.mul t n = repS t n.toNat := by
  by_cases h1 : 1 ≤ n
  · exact mul_rep h1
  · have e : n = 0 := by omega
    subst e
    unfold Txt.mul
    rw [if_pos (by omega)]
    rfl
noncomputable def rMul0 : R2 := fun x y H Q => ∃ t n, x = .str t ∧ y = .int n ∧ 0 ≤ n ∧ n ≤ 1000 ∧ t.length ≤ 1000 ∧ Q (.str (repS t n.toNat)) H
theorem op_mul0 {X : Cx} : OpR X (binaryOp .Mult) rMul0 := by
  intro pins s σ H x y v u Q I rx ry h
  obtain ⟨t, n, rfl, rfl, h1, h2, h3, q⟩ := h
  obtain ⟨k, rfl⟩ := rx
  obtain ⟨k', rfl⟩ := ry
  have e63 : (2 : Int) ^ 63 = 9223372036854775808 := by decide
  refine SB.mul ⟨?_, fun hn _ => ?_, fun hn _ => ?_⟩ fun t' kk => ⟨.str _, H, I.tok kk, ⟨t', rfl⟩, by rw [mul_rep0 h1]; exact q⟩
  · rw [e63]
    simp
    omega
  · intro hgt
    have hle : (1000 : Int) ≤ ((2 : Int) ^ 63 - 1) / n := by
      rw [e63]
      exact Int.le_ediv_of_mul_le (by omega) (by omega)
    omega
  · have : t.length * n.toNat ≤ 1000 * 1000 := Nat.mul_le_mul h3 (by omega)
    exact decide_eq_false (by rw [sizeLine_eq]; omega)
theorem qg_tupK {X : Cx} {es : List Expr} {pos : Pos} {K : PySem.W.Frag} {k n : Nat} {t : TGs} (eK : X.K = K) (hc : X.calm = true) (h : QGs X es t) (hn : (assignEach es X.env).length = n := by rfl) (hst : (assignEach es X.env).findIdx? (·.1) = none := by rfl) : QG X (.Tuple es k pos) (gTup K n t) := eK ▸ qg_tup hc h hn hst
theorem qop_mul0 {X : Cx} : QOp X (binaryOp .Mult) rMul0 := ⟨op_mul0⟩
end L2
namespace RB
open PySem L2 PySem.Spec PyProof.Rows
theorem SqL.same {K : PySem.W.Frag} {H H' : Hp} {a : Addr} {xs : List V} (s : Same H H') (h : SqL K H a xs) : SqL K H' a xs := by
  rcases h with (e | ⟨o, e⟩) | h
  · exact .inl (.inl (s _ _ e))
  · exact .inl (.inr ⟨o, s _ _ e⟩)
  · exact .inr h
theorem but_same {S : List Addr} {H0 H H' : Hp} (s : Same H0 H) (hS : ∀ p ∈ S, H0 p = none) (b : But S H H') : Same H0 H' := fun a o e => b a o (fun z => by rw [hS a z] at e; cases e) (s a o e)
noncomputable def spCell (K : PySem.W.Frag) : Sp := fun vs H Q _ => ∃ (a : Addr) (ns : List Int) (k : Int), vs = [.ref a, .int k] ∧ SqL K H a (ns.map V.int) ∧ 0 ≤ k ∧ ∀ n, Q (.int n) H
noncomputable def poolD (rest : Int) (mixed : Bool) (count : Int) : List (Key × V) := [(.inr "rest", .int rest), (.inr "mixed", .bl mixed), (.inr "count", .int count)]
noncomputable def PoolAt (H : Hp) (p : Addr) (c : Nat) : Prop := ∃ (rest : Int) (mixed : Bool) (count : Int), H p = some (.dK (poolD rest mixed count)) ∧ 0 ≤ count ∧ count ≤ (c : Int)
theorem PoolAt.keep {S : List Addr} {H H' : Hp} {p : Addr} {c : Nat} (h : PoolAt H p c) (b : But S H H') (hp : p ∉ S) : PoolAt H' p c := by
  obtain ⟨r, m, k, e, h⟩ := h
  exact ⟨r, m, k, b _ _ hp e, h⟩
theorem PoolAt.same {H H' : Hp} {p : Addr} {c : Nat} (h : PoolAt H p c) (b : Same H H') : PoolAt H' p c := h.keep (S := []) (But.of_same b) (by simp)
theorem PoolAt.tups {H H' : Hp} {p : Addr} {c : Nat} (h : PoolAt H p c) (b : But [p] H H') : Tups H H' := fun q xs e => b q _ (fun z => by
  obtain ⟨r, m, k, e', _⟩ := h
  have : q = p := by simpa using z
  rw [this, e'] at e; cases e) e
noncomputable def spPool (K : PySem.W.Frag) : Sp := fun vs H Q _ => ∃ (a : Addr) (ns : List Int) (k : Int), vs = [.ref a, .int k] ∧ SqL K H a (ns.map V.int) ∧ 0 ≤ k ∧ k ≤ 100 ∧ ∀ p H', Same H H' → H p = none → PoolAt H' p 503 → Q (.ref p) H'
noncomputable def spTake : Sp := fun vs H Q _ => ∃ (p : Addr) (c : Nat) (many : Int), vs = [.ref p, .int many] ∧ PoolAt H p c ∧ c ≤ 100000 ∧ 0 < many ∧ many.natAbs.log2 < 9000 ∧ ∀ n H', 0 ≤ n → n < many → But [p] H H' → PoolAt H' p (c + 1) → Q (.int n) H'
/-! ### the law's names -/
noncomputable def ltr (i : Nat) : Str := ⟨#[i + 97]⟩
noncomputable def nameK (k : Nat) : Str := ltr (k % 26) ++ repS (ltr (k * 7 % 26)) (k * 5 % 8)
noncomputable def spLaName : Sp := fun vs H Q _ => ∃ k : Nat, vs = [.int (k : Int)] ∧ k ≤ 1000 ∧ Q (.str (nameK k)) H
theorem ltr_at {n : Int} {i : Nat} (h : n = (i : Int)) (hi : i < 26) : atI (Str.ofString "abcdefghijklmnopqrstuvwxyz").cps.toList n = some (i + 97) := by
  subst h
  exact atI_nat (by rw [letters_cps, List.getElem?_map, List.getElem?_range hi]; rfl)
noncomputable def names26 : List Str := (List.range 26).map nameK
theorem names26_good : ∀ x ∈ names26 ++ [("qz" : Str), "xz", "jz"], GName x := by decide +kernel
theorem names26_nodup : (names26 ++ [("qz" : Str), "xz", "jz"]).Nodup := by decide +kernel
theorem pool_rest {H : Hp} {p : Addr} {a c : Int} {b : Bool} (e : H p = some (.dK (poolD a b c))) : DGet H p (.str "rest") (some (.int a)) := DGet.k (k := .inr "rest") e
theorem pool_mixed {H : Hp} {p : Addr} {a c : Int} {b : Bool} (e : H p = some (.dK (poolD a b c))) : DGet H p (.str "mixed") (some (.bl b)) := DGet.k (k := .inr "mixed") e
theorem pool_count {H : Hp} {p : Addr} {a c : Int} {b : Bool} (e : H p = some (.dK (poolD a b c))) : DGet H p (.str "count") (some (.int c)) := DGet.k (k := .inr "count") e
theorem pool_put_rest {H : Hp} {p : Addr} {a c : Int} {b : Bool} (e : H p = some (.dK (poolD a b c))) (x : Int) : DPut H p (.str "rest") (.int x) (upd H p (.dK (poolD x b c))) := DPut.k (k := .inr "rest") e (small1000 (by show 3 ≤ 1000; decide))
theorem pool_put_count {H : Hp} {p : Addr} {a c : Int} {b : Bool} (e : H p = some (.dK (poolD a b c))) (x : Int) : DPut H p (.str "count") (.int x) (upd H p (.dK (poolD a b x))) := DPut.k (k := .inr "count") e (small1000 (by show 3 ≤ 1000; decide))
end RB

set_option maxRecDepth 100000
namespace RB
open PySem L2 PySem.Spec PyProof.Rows
/-! ### worths known so far, and what a recipe comes to by them -/
noncomputable def Op.ap : Op → Int → Int → Int
  | .plus, u, v => u + v
  | .minus, u, v => u - v
  | .times, u, v => u * v
  | .most, u, v => if v > u then v else u
noncomputable def pickN (ns : List Str) (u : Int) : Option Str := ns[(u % (ns.length : Int)).toNat]?
/-! ### the machine -/
/-! ### recipes whose products are no wall -/
theorem pick_some {ns : List Str} (h : 1 ≤ ns.length) (u : Int) : ∃ x, pickN ns u = some x := by
  unfold pickN
  have h1 : (u % (ns.length : Int)).toNat < ns.length := by
    have := Int.emod_nonneg u (show (ns.length : Int) ≠ 0 by omega)
    have := Int.emod_lt_of_pos u (show (0 : Int) < ns.length by omega)
    omega
  exact ⟨_, List.getElem?_eq_getElem h1⟩
end RB
namespace RB
open PySem L2 PySem.Spec PyProof.Rows
/-! ### on the way -/
/-! ### what a recipe does behind reads -/
end RB

set_option maxRecDepth 100000
namespace L2
open PySem PySem.Spec PyProof.Rows
section
variable {X : Cx} {i o : Expr} {ty td : TE} {pos : Pos}
theorem qt_din (hu : X.A.units + 1 < cLine) (hi : QE X i ty) (ho : QE X o td) (h1 : behindInMarks .In o = false := by rfl) : QT X (.Compare i [.In] [o] pos) (tB (tDIn ty td)) := ⟨pt_cmp (pc_din hu hi.h ho.h) h1⟩
theorem qt_dnotin (hu : X.A.units + 1 < cLine) (hi : QE X i ty) (ho : QE X o td) (h1 : behindInMarks .NotIn o = false := by rfl) : QT X (.Compare i [.NotIn] [o] pos) (tB (tDNotIn ty td)) := ⟨pt_cmp (pc_dnotin hu hi.h ho.h) h1⟩
end
end L2
namespace RB
open PySem L2 PySem.Spec PyProof.Rows
/-! ### steps on the heap -/
/-! ### how much is left -/
/-! ### a reckoning -/
end RB
namespace RB
open PySem L2 PySem.Spec PyProof.Rows
end RB
namespace RB
open PySem L2 PySem.Spec PyProof.Rows
end RB
namespace RB
open PySem L2 PySem.Spec PyProof.Rows
theorem same_none {H H' : Hp} {p : Addr} (s : Same H H') (h : H' p = none) : H p = none := by
  cases z : H p with
  | none => rfl
  | some o => rw [s _ _ z] at h; cases h
end RB

set_option maxRecDepth 100000
namespace L2
open PySem PySem.Spec PyProof.Rows
section
variable {X : Cx}
end
end L2

set_option maxRecDepth 100000
namespace RB
open PySem L2 PySem.Spec PyProof.Rows
/-! ### the pools of the laws from k50 on -/
end RB
namespace RB
open PySem L2 PySem.Spec PyProof.Rows
end RB

set_option maxRecDepth 100000
namespace L2
open PySem PySem.Spec PyProof.Rows
/-! ### xs[::-1] -/
section
variable {X : Cx} {e st : Expr} {te ts : TE} {pos p2 : Pos}
end
end L2

set_option maxRecDepth 100000
namespace RB
open PySem L2 PySem.Spec PyProof.Rows
/-! ### the law's own way: reads are used up as they are looked for -/
/-! ### how big a worth may be -/
end RB

set_option maxRecDepth 100000
namespace RB
open PySem L2 PySem.Spec PyProof.Rows
theorem putK_keys {κ : Type} [DecidableEq κ] (kvs : List (κ × V)) (k : κ) (v : V) : (putK kvs k v).map (·.1) = if (kvs.any fun kv => decide (kv.1 = k)) = true then kvs.map (·.1) else kvs.map (·.1) ++ [k] := by
  unfold putK
  split
  · rw [List.map_map]
    apply List.map_congr_left
    intro p _
    show (if p.1 = k then (p.1, v) else p).1 = p.1
    split <;> rfl
  · rw [List.map_append]; rfl
end RB

set_option maxRecDepth 100000
namespace RB
open PySem L2 PySem.Spec PyProof.Rows
section
variable {H : Hp} {s l h : Addr} {du wr : V}
end
section
variable {H H' : Hp} {s l h : Addr} {kn : Kn} {ps : List Rdp}
end
end RB
namespace RB
open PySem L2 PySem.Spec PyProof.Rows
end RB
namespace RB
open PySem L2 PySem.Spec PyProof.Rows
end RB

set_option maxRecDepth 100000
namespace RB
open PySem L2 PySem.Spec PyProof.Rows
end RB

set_option maxRecDepth 100000
namespace L2
open PySem PySem.Spec PyProof.Rows
/-! ### for k in d: the dict is held fast from then on -/
section
variable {X : Cx} {tg : Expr}
end
/-! ### dict(d) -/
section
variable {X : Cx}
end
/-! ### alike, part by part -/
section
variable {X : Cx}
/-! ### sorted: texts, fewer than 64 -/
end
end L2
namespace RB
open PySem L2 PySem.Spec PyProof.Rows
/-! ### (name, number) not in a row of reads -/
noncomputable def rdT (p : Rdp) : PyData := .tuple [.str p.1, .int p.2]
theorem rdT_eqv (p t : Rdp) : PyData.eqv (rdT p) (rdT t) = decide (p = t) := by
  obtain ⟨a, i⟩ := p
  obtain ⟨b, j⟩ := t
  simp only [rdT, PyData.eqv, PyData.eqvAll]
  by_cases h1 : a = b
  · by_cases h2 : i = j
    · simp [h1, h2]
    · simp [h1, h2]
  · simp [h1]
theorem rdT_shaped {p : Rdp} (h : GName p.1) : SeqAt.shaped (rdT p) = true := by
  have hs := strOk_name h
  have h5 : (rdT p).canLay0 = true := by
    show (PyData.strOk p.1 && (true && true)) = true
    rw [hs]; rfl
  have h4 : (rdT p).depth ≤ 64 := by simp only [rdT, PyData.depth, PyData.depthAll]; omega
  show (_ && decide _) = true
  rw [h5, decide_eq_true h4]; rfl
open Classical in
noncomputable def isT (H : Hp) (t : Rdp) : Value → Bool
  | .ref a => decide (H a = some (.tup (rdV t)))
  | _ => false
open Classical in
theorem isT_yes {H : Hp} {t : Rdp} {a : Addr} (h : H a = some (.tup (rdV t))) : isT H t (.ref a) = true := by
  unfold isT
  exact decide_eq_true h
open Classical in
theorem isT_no {H : Hp} {t : Rdp} {a : Addr} (h : ¬ H a = some (.tup (rdV t))) : isT H t (.ref a) = false := by
  unfold isT
  exact decide_eq_false h
theorem rdV_inj {p t : Rdp} (h : rdV p = rdV t) : p = t := by
  obtain ⟨a, i⟩ := p
  obtain ⟨b, j⟩ := t
  unfold rdV at h
  simp only [List.cons.injEq, V.str.injEq, V.int.injEq, and_true] at h
  rw [h.1, h.2]
theorem any_isT {H : Hp} {t : Rdp} : ∀ {as : List Addr} {ps : List Rdp} {its : List Value}, IsRds H as ps → Vals (as.map V.ref) its → its.any (isT H t) = decide (t ∈ ps)
  | _, _, _, .nil, r => by cases r; simp
  | _, _, _, .cons (a := a) (p := p) (as := as) (ps := ps) h g, r => by
    cases r with
    | cons r1 r2 =>
      cases r1
      rw [List.any_cons, any_isT g r2]
      have e : isT H t (.ref a) = decide (t = p) := by
        by_cases z : t = p
        · rw [decide_eq_true z, isT_yes (by rw [z]; exact h)]
        · rw [decide_eq_false z, isT_no (fun w => z (rdV_inj (by rw [h] at w; exact (HO.tup.inj (Option.some.inj w)).symm)))]
      rw [e]
      by_cases z : t = p
      · simp [z]
      · simp [z]
theorem op_notInP {X : Cx} (hu : X.A.units + 64 < cLine) : OpR X (compareOp .NotIn) (fun x y H Q => ∃ (a l : Addr) (as : List Addr) (ps : List Rdp) (t : Rdp), x = .ref a ∧ y = .ref l ∧ H a = some (.tup (rdV t)) ∧ SqL X.K H l (as.map V.ref) ∧ IsRds H as ps ∧ (∀ p ∈ ps, GName p.1) ∧ GName t.1 ∧ Q (.bl (!decide (t ∈ ps))) H) := by
  intro pins s σ H x y v u Q I rx ry h
  obtain ⟨a, l, as, ps, t, rfl, rfl, ha, hl, hR, hg, ht, q⟩ := h
  cases rx
  cases ry
  obtain ⟨its, r, pl, _⟩ := I.list hl
  have dt : DatV X.K H (.ref a) (rdT t) := .tup (SqT.of ha) (.cons (.str _) (.cons (.int _) .nil))
  obtain ⟨bs, rt⟩ := dt.reads I (show RelV (.ref a) (.ref a) from rfl)
  refine SeqAt.notIn_listAt (isT H t) pl.isList (fun y hy => ?_) ⟨.bl _, H, I, rfl, ?_⟩
  · have hy : y ∈ its := by simpa using hy
    obtain ⟨i, hi⟩ := List.getElem?_of_mem hy
    have hli : i < (as.map V.ref).length := by
      have := (List.getElem?_eq_some_iff.mp hi).1
      rw [r.length]; exact this
    have hx : (as.map V.ref)[i]? = some ((as.map V.ref)[i]) := List.getElem?_eq_getElem hli
    obtain ⟨c, hc, ec⟩ := ref_at hx
    obtain ⟨p, hp, ep⟩ := hR.get i c hc
    obtain ⟨z, hz, rz⟩ := r.get hx
    rw [hi] at hz
    cases hz
    rw [ec] at rz
    cases rz
    have dp : DatV X.K H (.ref c) (rdT p) := .tup (SqT.of ep) (.cons (.str _) (.cons (.int _) .nil))
    obtain ⟨cs, rp⟩ := dp.reads I (show RelV (.ref c) (.ref c) from rfl)
    have k : SeqAt.EqAt X.A.in1 s (.ref c) (.ref a) (PyData.eqv (rdT p) (rdT t)) := SeqAt.eqAt_reads _ _ _ _ _ _ _ _ rp rt (SeqAt.canLay_of_shaped (rdT_shaped (hg p (List.mem_of_getElem? hp)))) (SeqAt.canLay_of_shaped (rdT_shaped ht)) (by
      have h1 : (rdT p).depth ≤ 4 := by simp only [rdT, PyData.depth, PyData.depthAll]; omega
      have h2 : min (rdT p).depth (rdT t).depth ≤ (rdT p).depth := Nat.min_le_left _ _
      have h3 : X.A.in1.units = X.A.units + 1 := rfl
      omega)
    rw [rdT_eqv] at k
    have e : isT H t (.ref c) = decide (p = t) := by
      by_cases z : p = t
      · rw [decide_eq_true z, isT_yes (by rw [← z]; exact ep)]
      · rw [decide_eq_false z, isT_no (fun w => z (rdV_inj (by rw [ep] at w; exact HO.tup.inj (Option.some.inj w))))]
    rw [e]; exact k
  · rw [show its.toArray.any (isT H t) = its.any (isT H t) by simp, any_isT hR r]
    exact q
theorem qop_notInP {X : Cx} (hu : X.A.units + 64 < cLine) : QOp X (compareOp .NotIn) (fun x y H Q => ∃ (a l : Addr) (as : List Addr) (ps : List Rdp) (t : Rdp), x = .ref a ∧ y = .ref l ∧ H a = some (.tup (rdV t)) ∧ SqL X.K H l (as.map V.ref) ∧ IsRds H as ps ∧ (∀ p ∈ ps, GName p.1) ∧ GName t.1 ∧ Q (.bl (!decide (t ∈ ps))) H) := ⟨op_notInP hu⟩
end RB
namespace L2
open PySem PySem.Spec PyProof.Rows
section
variable {X : Cx} {o e : Expr} {td ty : TE} {apos cpos : Pos}
end
end L2

set_option maxRecDepth 100000
namespace RB
open PySem L2 PySem.Spec PyProof.Rows
/-! ### the recipes of k31 to k41 -/
theorem PoolAt.ne {H : Hp} {p q : Addr} {c : Nat} (h : PoolAt H p c) (hq : H q = none) : q ≠ p := fun z => by
  obtain ⟨r, m, k, e', _⟩ := h
  rw [← z, hq] at e'; cases e'
theorem PoolAt.mono {H : Hp} {p : Addr} {c c' : Nat} (h : PoolAt H p c) (hc : c ≤ c') : PoolAt H p c' := by
  obtain ⟨r, m, k, e, h0, h1⟩ := h
  exact ⟨r, m, k, e, h0, by omega⟩
end RB

set_option maxRecDepth 100000
namespace RB
open PySem L2 PySem.Spec PyProof.Rows
/-! ### dicts whose keys are texts -/
structure Keys (kvs : List (Key × V)) (ks : List Str) : Prop where
  k : kvs.map (·.1) = ks.map Sum.inr
  nd : ks.Nodup
theorem Keys.len {kvs : List (Key × V)} {ks : List Str} (h : Keys kvs ks) : kvs.length = ks.length := by
  have := congrArg List.length h.k
  rwa [List.length_map, List.length_map] at this
theorem any_key {kvs : List (Key × V)} {ks : List Str} (h : Keys kvs ks) (x : Str) : (kvs.any fun kv => decide (kv.1 = (.inr x : Key))) = decide (x ∈ ks) := by
  have e : (kvs.any fun kv => decide (kv.1 = (.inr x : Key))) = (kvs.map (·.1)).any (fun k => decide (k = (.inr x : Key))) := by rw [List.any_map]; rfl
  rw [e, h.k, List.any_map]
  clear e h
  induction ks with
  | nil => rfl
  | cons y ks ih =>
    rw [List.any_cons, ih]
    by_cases hy : x = y
    · subst hy; simp
    · have : ¬ (y = x) := fun z => hy z.symm
      simp [hy, this]
theorem Keys.none {kvs : List (Key × V)} {ks : List Str} (h : Keys kvs ks) {x : Str} : valV kvs (.inr x) = none ↔ x ∉ ks := by
  have e := any_key h x
  rw [valV_any] at e
  constructor
  · intro z m
    rw [z] at e
    simp [m] at e
  · intro m
    cases z : valV kvs (.inr x) with
    | none => rfl
    | some v => rw [z] at e; simp [m] at e
theorem Keys.putNew {kvs : List (Key × V)} {ks : List Str} (h : Keys kvs ks) {x : Str} (hx : x ∉ ks) (v : V) : Keys (putK kvs (.inr x) v) (ks ++ [x]) := by
  refine ⟨?_, ?_⟩
  · rw [putK_keys, any_key h x, decide_eq_false hx, if_neg (by decide), h.k, List.map_append]; rfl
  · rw [List.nodup_append]
    exact ⟨h.nd, by simp, fun a ha b hb => by
      have : b = x := by simpa using hb
      rw [this]; exact fun z => hx (z ▸ ha)⟩
/-! ### names by number -/
/-! ### houses -/
end RB
namespace RB
open PySem L2 PySem.Spec PyProof.Rows
end RB
namespace RB
open PySem L2 PySem.Spec PyProof.Rows
section
variable {H : Hp} {kg kc : List (Key × V)} {n : Nat} {gv : Kn} {rc : Rn}
theorem inr_ne {x y : Str} (h : ¬ x = y) : ¬ (Sum.inr x : Key) = Sum.inr y := fun z => h (Sum.inr.inj z)
end
end RB

set_option maxRecDepth 100000
namespace RB
open PySem L2 PySem.Spec PyProof.Rows
/-! ### a recipe's worth, and the reads it took -/
/-! ### rows of reads that are known -/
theorem nodup_len : ∀ {ws ns : List Str}, ws.Nodup → (∀ x ∈ ws, x ∈ ns) → ws.length ≤ ns.length
  | [], _, _, _ => Nat.zero_le _
  | w :: ws, ns, nd, h => by
    rw [List.nodup_cons] at nd
    have hw := h w (by simp)
    have ih := nodup_len (ws := ws) (ns := ns.erase w) nd.2 fun x hx => by
      have hne : x ≠ w := fun e => nd.1 (by rw [← e]; exact hx)
      exact (List.mem_erase_of_ne hne).mpr (h x (by simp [hx]))
    rw [List.length_erase_of_mem hw] at ih
    have := List.length_pos_of_mem hw
    simp only [List.length_cons]
    omega
/-! ### the law's state -/
section
variable {X : List Addr} {H H' : Hp} {st wd rd : Addr} {n : Nat} {gv : Kn} {rc : Rn} {kn : Kn} {rm : Rm}
end
end RB
namespace RB
open PySem L2 PySem.Spec PyProof.Rows
end RB

set_option maxRecDepth 100000
namespace RB
open PySem L2 PySem.Spec PyProof.Rows
section
variable {X : List Addr} {H : Hp} {h g c st wd rd : Addr} {n : Nat} {gv : Kn} {rc : Rn} {kn : Kn} {rm : Rm}
end
end RB
namespace RB
open PySem L2 PySem.Spec PyProof.Rows
end RB
namespace RB
open PySem L2 PySem.Spec PyProof.Rows
/-! ### records put by -/
end RB
namespace RB
open PySem L2 PySem.Spec PyProof.Rows
end RB

set_option maxRecDepth 100000
namespace RB
open PySem L2 PySem.Spec PyProof.Rows
end RB
namespace RB
open PySem L2 PySem.Spec PyProof.Rows
end RB

set_option maxRecDepth 100000
namespace RB
open PySem L2 PySem.Spec PyProof.Rows
end RB

set_option maxRecDepth 100000
namespace RB
open PySem L2 PySem.Spec PyProof.Rows
end RB

set_option maxRecDepth 100000
--BEGIN
namespace L2
open PySem PySem.Spec PyProof.Rows
/-! ### zip of two tuples -/
section
variable {prog : Program} {w : World} {A : Around} {E : Value → Shared → Prop} {s : Shared}
end
end L2
--END

set_option maxRecDepth 100000
--BEGIN
namespace L2
open PySem PySem.Spec PyProof.Rows
section
variable {prog : Program} {w : World} {A : Around} {E : Value → Shared → Prop} {s : Shared}
end
end L2
--END

set_option maxRecDepth 100000
--BEGIN
namespace RB
open PySem PySem.Spec PyProof.Rows L2
/-! ### things that are the same -/
end RB
--END

set_option maxRecDepth 100000
--BEGIN
namespace RB
open PySem L2 PySem.Spec PyProof.Rows
end RB
--END

set_option maxRecDepth 100000
--BEGIN
namespace RB
open PySem L2 PySem.Spec PyProof.Rows
end RB
--END

set_option maxRecDepth 100000
--BEGIN
namespace L2
open PySem PySem.Spec PyProof.Rows
/-! ### for k, x in enumerate(a list) -/
end L2
--END

set_option maxRecDepth 100000
--BEGIN
namespace RB
open PySem L2 PySem.Spec PyProof.Rows
end RB
--END

set_option maxRecDepth 100000
--BEGIN
namespace RB
open PySem L2 PySem.Spec PyProof.Rows
/-! ### things as data, and the law's own comparison -/
end RB
--END

set_option maxRecDepth 100000
--BEGIN
namespace RB
open PySem L2 PySem.Spec PyProof.Rows
end RB
--END

set_option maxRecDepth 100000
--BEGIN
namespace RB
open PySem L2 PySem.Spec PyProof.Rows
end RB
--END

set_option maxRecDepth 100000
--BEGIN
namespace L2
open PySem PySem.Spec PyProof.Rows RB
/-! ### t[lo:hi], the whole of it or not -/
section
variable {prog : Program} {w : World} {A : Around} {E : Value → Shared → Prop} {s : Shared}
end
end L2
namespace RB
open PySem L2 PySem.Spec PyProof.Rows
end RB
--END

set_option maxRecDepth 100000
--BEGIN
namespace L2
open PySem PySem.Spec PyProof.Rows
theorem call_sumG {X : Cx} (hc : X.calm = true) : CallR X (.builtin "sum") (fun xs H Q => ∃ (p : Addr) (ns : List Int), xs = [V.ref p] ∧ SqL X.K H p (ns.map V.int) ∧ Q (.int ns.sum) H) := by
  intro pins s σ H xs us Q I r h
  obtain ⟨p, ns, rfl, hp, q⟩ := h
  obtain ⟨u, rfl, ru⟩ := Vals.one r
  cases (show u = Value.ref p from ru)
  obtain ⟨its, rv, pl, hz⟩ := I.list hp
  have hi := intsAre_of rv
  have hall := hi.allInts
  have hnum : numsOf its.toArray.toList = ns := by rw [show its.toArray.toList = its from rfl, hi.numsOf]
  have hl := pl.isList
  obtain ⟨xs, ex⟩ := hall.items
  rw [ex] at hl hnum
  rw [nums_intItems] at hnum
  subst hnum
  refine sum_intListG (I.ok.hd hc) hl fun h' tk t' hk => ?_
  rw [preSum_eq, List.take_of_length_le (by simp)]
  exact ⟨.int _, H, I.kept (t' := tk) hk, ⟨t', rfl⟩, q⟩
theorem qc_sumG {X : Cx} (hc : X.calm = true) : QCall X (.builtin "sum") (fun xs H Q => ∃ (p : Addr) (ns : List Int), xs = [V.ref p] ∧ SqL X.K H p (ns.map V.int) ∧ Q (.int ns.sum) H) := ⟨call_sumG hc⟩
end L2
--END

set_option maxRecDepth 100000
--BEGIN
namespace RB
open PySem L2 PySem.Spec PyProof.Rows
/-! ### the twin of a record -/
noncomputable def rowR : List Rdp → R
  | [] => .num 0
  | p :: ps => ps.foldl (fun r q => .cho r [q.1]) (.rd p.1)
noncomputable def rows3 (ps : List Rdp) : List (List Rdp) := (List.range ((ps.length + 2) / 3)).map fun i => (ps.drop (3 * i)).take 3
noncomputable def lastV (ps : List Rdp) : Int := match ps.getLast? with
  | some p => p.2
  | none => 0
noncomputable def sumF : Nat → List R → R
  | 0, rs => rs.headD (.num 0)
  | k + 1, rs => if rs.length = 1 then rs.headD (.num 0) else .bin .plus (sumF k (rs.take (rs.length / 2))) (sumF k (rs.drop (rs.length / 2)))
noncomputable def rowsK (ps : List Rdp) (k : Nat) : List (List Rdp) := rows3 (ps.take (k + 1)) ++ rows3 (ps.drop (k + 1))
noncomputable def restK (ps : List Rdp) (k : Nat) (v : Int) : Int := v - ((rowsK ps k).map lastV).sum
noncomputable def twinR (ps : List Rdp) (k : Nat) (v : Int) : R := sumF 4 ((rowsK ps k).map rowR ++ [.num (restK ps k v)])
theorem rows3_nil : rows3 [] = [] := rfl
theorem rows3_cons {ps : List Rdp} (h : ps ≠ []) : rows3 ps = ps.take 3 :: rows3 (ps.drop 3) := by
  have hl : 1 ≤ ps.length := by cases ps with
    | nil => exact absurd rfl h
    | cons a l => simp
  unfold rows3
  have e : (ps.length + 2) / 3 = ((ps.drop 3).length + 2) / 3 + 1 := by rw [List.length_drop]; omega
  rw [e, List.range_succ_eq_map, List.map_cons, List.map_map]
  simp only [Nat.mul_zero, List.drop_zero]
  congr 1
  apply List.map_congr_left
  intro i _
  show (ps.drop (3 * (i + 1))).take 3 = ((ps.drop 3).drop (3 * i)).take 3
  rw [List.drop_drop]
  congr 2
  omega
/-- rows: none empty, none longer than three, all in a row the reads -/
theorem rows3_ind {P : List Rdp → List (List Rdp) → Prop} (h0 : P [] []) (h1 : ∀ ps, ps ≠ [] → P (ps.drop 3) (rows3 (ps.drop 3)) → P ps (ps.take 3 :: rows3 (ps.drop 3))) : ∀ (n : Nat) (ps : List Rdp), ps.length ≤ n → P ps (rows3 ps)
  | 0, ps, h => by
    have : ps = [] := List.length_eq_zero_iff.mp (by omega)
    rw [this]; exact h0
  | n + 1, ps, h => by
    by_cases hn : ps = []
    · rw [hn]; exact h0
    · rw [rows3_cons hn]
      refine h1 ps hn (rows3_ind h0 h1 n _ ?_)
      have : 1 ≤ ps.length := by cases ps with
        | nil => exact absurd rfl hn
        | cons a l => simp
      rw [List.length_drop]; omega
theorem rows3_flat (ps : List Rdp) : (rows3 ps).flatten = ps := rows3_ind (P := fun ps rs => rs.flatten = ps) rfl (fun ps _ ih => by rw [List.flatten_cons, ih]; exact List.take_append_drop 3 ps) ps.length ps (Nat.le_refl _)
theorem rows3_row (ps : List Rdp) : ∀ row ∈ rows3 ps, row ≠ [] ∧ row.length ≤ 3 := rows3_ind (P := fun ps rs => ∀ row ∈ rs, row ≠ [] ∧ row.length ≤ 3) (by simp) (fun ps hn ih row hr => by
  rcases List.mem_cons.mp hr with rfl | hr
  · refine ⟨fun z => hn ?_, List.length_take_le _ _⟩
    cases ps with
    | nil => rfl
    | cons a l => simp at z
  · exact ih row hr) ps.length ps (Nat.le_refl _)
/-! ### what a recipe comes to where all is known -/
noncomputable def evT (nm : Str → Int) : R → Int
  | .num n => n
  | .rd x => nm x
  | .bin op a b => op.ap (evT nm a) (evT nm b)
  | .pick a b c => if evT nm a > 0 then evT nm b else evT nm c
  | .cho a ns => match pickN ns (evT nm a) with
    | some x => nm x
    | none => 0
noncomputable def addR (nm : Str → Int) (acc : List Rdp) (x : Str) : List Rdp := if (x, nm x) ∈ acc then acc else acc ++ [(x, nm x)]
noncomputable def rdT2 (nm : Str → Int) : R → List Rdp → List Rdp
  | .num _, acc => acc
  | .rd x, acc => addR nm acc x
  | .bin _ a b, acc => rdT2 nm b (rdT2 nm a acc)
  | .pick a b c, acc => if evT nm a > 0 then rdT2 nm b (rdT2 nm a acc) else rdT2 nm c (rdT2 nm a acc)
  | .cho a ns, acc => match pickN ns (evT nm a) with
    | some x => addR nm (rdT2 nm a acc) x
    | none => rdT2 nm a acc
theorem pick_one (x : Str) (u : Int) : pickN [x] u = some x := by
  unfold pickN
  rw [show (([x] : List Str).length : Int) = 1 from rfl, Int.emod_one]; rfl
theorem fold_ev (nm : Str → Int) : ∀ (ps : List Rdp) (r : R), evT nm (ps.foldl (fun r q => .cho r [q.1]) r) = match ps.getLast? with
    | some p => nm p.1
    | none => evT nm r
  | [], r => rfl
  | p :: ps, r => by
    rw [List.foldl_cons, fold_ev nm ps]
    cases ps with
    | nil =>
      show evT nm (.cho r [p.1]) = nm p.1
      simp only [evT, pick_one]
    | cons q qs => rw [List.getLast?_cons_cons]; cases h : (q :: qs).getLast? with
      | none => simp at h
      | some z => rfl
theorem fold_rd (nm : Str → Int) : ∀ (ps : List Rdp) (r : R) (acc : List Rdp), rdT2 nm (ps.foldl (fun r q => .cho r [q.1]) r) acc = ps.foldl (fun acc q => addR nm acc q.1) (rdT2 nm r acc)
  | [], r, acc => rfl
  | p :: ps, r, acc => by
    rw [List.foldl_cons, fold_rd nm ps, List.foldl_cons]
    congr 1
    simp only [rdT2, pick_one]
theorem row_ev {nm : Str → Int} {row : List Rdp} (h : row ≠ []) : ∃ p, row.getLast? = some p ∧ evT nm (rowR row) = nm p.1 := by
  cases row with
  | nil => exact absurd rfl h
  | cons p ps =>
    have e : evT nm (rowR (p :: ps)) = _ := fold_ev nm ps (.rd p.1)
    rw [e]
    cases ps with
    | nil => exact ⟨p, rfl, rfl⟩
    | cons q qs =>
      rw [List.getLast?_cons_cons]
      cases hq : (q :: qs).getLast? with
      | none => simp at hq
      | some z => exact ⟨z, rfl, rfl⟩
theorem row_rd {nm : Str → Int} {row : List Rdp} (h : row ≠ []) (acc : List Rdp) : rdT2 nm (rowR row) acc = row.foldl (fun acc q => addR nm acc q.1) acc := by
  cases row with
  | nil => exact absurd rfl h
  | cons p ps => exact fold_rd nm ps (.rd p.1) acc
theorem sum_ev (nm : Str → Int) : ∀ (k : Nat) (rs : List R), 1 ≤ rs.length → rs.length ≤ 2 ^ k → evT nm (sumF k rs) = (rs.map (evT nm)).sum
  | 0, rs, h1, h2 => by
    match rs, h1, h2 with
    | [r], _, _ => simp [sumF]
  | k + 1, rs, h1, h2 => by
    unfold sumF
    by_cases h : rs.length = 1
    · rw [if_pos h]
      match rs, h with
      | [r], _ => simp
    · rw [if_neg h]
      have e2 : 2 ^ (k + 1) = 2 * 2 ^ k := by rw [Nat.pow_succ]; omega
      rw [e2] at h2
      simp only [evT, Op.ap]
      rw [sum_ev nm k _ (by rw [List.length_take]; omega) (by rw [List.length_take]; omega), sum_ev nm k _ (by rw [List.length_drop]; omega) (by rw [List.length_drop]; omega), ← List.sum_append, ← List.map_append, List.take_append_drop]
theorem sum_rd (nm : Str → Int) : ∀ (k : Nat) (rs : List R) (acc : List Rdp), 1 ≤ rs.length → rs.length ≤ 2 ^ k → rdT2 nm (sumF k rs) acc = rs.foldl (fun acc r => rdT2 nm r acc) acc
  | 0, rs, acc, h1, h2 => by
    match rs, h1, h2 with
    | [r], _, _ => simp [sumF]
  | k + 1, rs, acc, h1, h2 => by
    unfold sumF
    by_cases h : rs.length = 1
    · rw [if_pos h]
      match rs, h with
      | [r], _ => simp
    · rw [if_neg h]
      have e2 : 2 ^ (k + 1) = 2 * 2 ^ k := by rw [Nat.pow_succ]; omega
      rw [e2] at h2
      simp only [rdT2]
      rw [sum_rd nm k _ acc (by rw [List.length_take]; omega) (by rw [List.length_take]; omega), sum_rd nm k _ _ (by rw [List.length_drop]; omega) (by rw [List.length_drop]; omega), ← List.foldl_append, List.take_append_drop]
theorem rowsK_flat (ps : List Rdp) (k : Nat) : (rowsK ps k).flatten = ps := by unfold rowsK; rw [List.flatten_append, rows3_flat, rows3_flat, List.take_append_drop]
theorem rowsK_row (ps : List Rdp) (k : Nat) : ∀ row ∈ rowsK ps k, row ≠ [] ∧ row.length ≤ 3 := fun row h => (List.mem_append.mp h).elim (rows3_row _ row) (rows3_row _ row)
theorem rowsK_len {ps : List Rdp} {k : Nat} (h : ps.length ≤ 30) (hk : k < ps.length) : 1 ≤ (rowsK ps k).length ∧ (rowsK ps k).length ≤ 12 := by
  unfold rowsK rows3
  rw [List.length_append, List.length_map, List.length_map, List.length_range, List.length_range, List.length_take, List.length_drop]
  omega
theorem foldl_rows {nm : Str → Int} : ∀ (rows : List (List Rdp)) (acc : List Rdp), (∀ row ∈ rows, row ≠ []) → (rows.map rowR).foldl (fun acc r => rdT2 nm r acc) acc = rows.flatten.foldl (fun acc q => addR nm acc q.1) acc
  | [], acc, _ => rfl
  | row :: rows, acc, h => by
    rw [List.map_cons, List.foldl_cons, List.flatten_cons, List.foldl_append, row_rd (h row (by simp)), foldl_rows rows _ fun r hr => h r (by simp [hr])]
/-- reads that are true and new are put down as they are -/
theorem fold_add {nm : Str → Int} : ∀ (ps acc : List Rdp), (∀ p ∈ ps, nm p.1 = p.2) → (ps.map (·.1)).Nodup → (∀ p ∈ ps, p.1 ∉ acc.map (·.1)) → ps.foldl (fun acc q => addR nm acc q.1) acc = acc ++ ps
  | [], acc, _, _, _ => by simp
  | p :: ps, acc, h, nd, hn => by
    rw [List.map_cons, List.nodup_cons] at nd
    have hp := h p (by simp)
    have e : addR nm acc p.1 = acc ++ [p] := by
      unfold addR
      rw [if_neg (show (p.1, nm p.1) ∉ acc from fun z => hn p (by simp) (List.mem_map.mpr ⟨_, z, rfl⟩)), hp]
    rw [List.foldl_cons, e, fold_add ps (acc ++ [p]) (fun q hq => h q (by simp [hq])) nd.2 (fun q hq z => ?_), List.append_assoc]
    · rfl
    · rw [List.map_append, List.mem_append] at z
      rcases z with z | z
      · exact hn q (by simp [hq]) z
      · have : q.1 = p.1 := by simpa using z
        exact nd.1 (this ▸ List.mem_map.mpr ⟨q, hq, rfl⟩)
theorem twin_rd {nm : Str → Int} {ps : List Rdp} {k : Nat} {v : Int} (h30 : ps.length ≤ 30) (hk : k < ps.length) (h : ∀ p ∈ ps, nm p.1 = p.2) (nd : (ps.map (·.1)).Nodup) : rdT2 nm (twinR ps k v) [] = ps := by
  have hl := rowsK_len h30 hk
  unfold twinR
  rw [sum_rd nm 4 _ [] (by simp) (by simp; omega), List.foldl_append, foldl_rows _ _ (fun row hr => (rowsK_row ps k row hr).1), rowsK_flat, fold_add ps [] h nd (by simp)]
  rfl
theorem twin_ev (nm : Str → Int) {ps : List Rdp} {k : Nat} {v : Int} (h30 : ps.length ≤ 30) (hk : k < ps.length) : evT nm (twinR ps k v) = (((rowsK ps k).map rowR).map (evT nm)).sum + restK ps k v := by
  have hl := rowsK_len h30 hk
  unfold twinR
  rw [sum_ev nm 4 _ (by simp) (by simp; omega), List.map_append, List.sum_append]
  simp [evT]
theorem rows_sum {nm : Str → Int} : ∀ (rows : List (List Rdp)), (∀ row ∈ rows, row ≠ [] ∧ ∀ p ∈ row, nm p.1 = p.2) → ((rows.map rowR).map (evT nm)).sum = (rows.map lastV).sum
  | [], _ => rfl
  | row :: rows, h => by
    obtain ⟨h1, h2⟩ := h row (by simp)
    obtain ⟨p, hp, e⟩ := row_ev (nm := nm) h1
    have hv : lastV row = p.2 := by unfold lastV; rw [hp]
    rw [List.map_cons, List.map_cons, List.sum_cons, List.map_cons, List.sum_cons, e, hv, h2 p (List.mem_of_getLast? hp), rows_sum rows fun r hr => h r (by simp [hr])]
theorem twin_ev1 {nm : Str → Int} {ps : List Rdp} {k : Nat} {v : Int} (h30 : ps.length ≤ 30) (hk : k < ps.length) (h : ∀ p ∈ ps, nm p.1 = p.2) : evT nm (twinR ps k v) = v := by
  rw [twin_ev nm h30 hk, rows_sum _ fun row hr => ⟨(rowsK_row ps k row hr).1, fun p hp => h p ?_⟩]
  · unfold restK; omega
  · rw [← rowsK_flat ps k]; exact List.mem_flatten.mpr ⟨row, hr, hp⟩
theorem rows3_last (ps : List Rdp) : ps ≠ [] → ∃ rs row, rows3 ps = rs ++ [row] ∧ row.getLast? = ps.getLast? :=
  rows3_ind (P := fun ps rows => ps ≠ [] → ∃ rs row, rows = rs ++ [row] ∧ row.getLast? = ps.getLast?) (fun h => absurd rfl h) (fun ps hn ih _ => by
    by_cases hd : ps.drop 3 = []
    · rw [hd, rows3_nil]
      have ht : ps.take 3 = ps := by
        have := List.take_append_drop 3 ps
        rw [hd, List.append_nil] at this; exact this
      exact ⟨[], ps.take 3, rfl, by rw [ht]⟩
    · obtain ⟨rs, row, e1, e2⟩ := ih hd
      refine ⟨ps.take 3 :: rs, row, by rw [e1]; rfl, ?_⟩
      rw [e2]
      have := List.take_append_drop 3 ps
      conv => rhs; rw [← this]
      rw [List.getLast?_append]
      cases hz : (ps.drop 3).getLast? with
      | none => exact absurd (List.getLast?_eq_none_iff.mp hz) hd
      | some z => rfl) ps.length ps (Nat.le_refl _)
/-- a read that changes, the last of its row, changes the worth -/
theorem twin_ev2 {nm : Str → Int} {ps : List Rdp} {k : Nat} {v : Int} {x : Str} {u : Int} (h30 : ps.length ≤ 30) (hk : ps[k]? = some (x, u)) (nd : (ps.map (·.1)).Nodup) (h : ∀ p ∈ ps, p.1 ≠ x → nm p.1 = p.2) (hx : nm x ≠ u) : evT nm (twinR ps k v) ≠ v := by
  have hkl : k < ps.length := (List.getElem?_eq_some_iff.mp hk).1
  have hne : ps.take (k + 1) ≠ [] := fun z => by
    have := congrArg List.length z
    rw [List.length_take] at this
    have hz : ([] : List Rdp).length = 0 := rfl
    omega
  obtain ⟨rs, row, e1, e2⟩ := rows3_last _ hne
  have hlast : (ps.take (k + 1)).getLast? = some (x, u) := by
    rw [List.take_add_one, hk]; simp
  rw [hlast] at e2
  have hrow : row ≠ [] := fun z => by rw [z] at e2; cases e2
  have hK : rowsK ps k = rs ++ ([row] ++ rows3 (ps.drop (k + 1))) := by unfold rowsK; rw [e1, List.append_assoc]
  have hfl := rowsK_flat ps k
  rw [hK, List.flatten_append, List.flatten_append] at hfl
  have hrf : ([row] : List (List Rdp)).flatten = row := by simp
  rw [hrf] at hfl
  have nd' := nd
  rw [← hfl, List.map_append, List.map_append, List.nodup_append] at nd'
  obtain ⟨_, nd2, nd3⟩ := nd'
  rw [List.nodup_append] at nd2
  obtain ⟨_, _, nd4⟩ := nd2
  have hxr : x ∈ row.map (·.1) := List.mem_map.mpr ⟨(x, u), List.mem_of_getLast? e2, rfl⟩
  have g1 : ∀ r ∈ rs, r ≠ [] ∧ ∀ p ∈ r, nm p.1 = p.2 := fun r hr => ⟨(rowsK_row ps k r (by rw [hK]; simp [hr])).1, fun p hp => by
    have hpf : p ∈ rs.flatten := List.mem_flatten.mpr ⟨r, hr, hp⟩
    refine h p (by rw [← hfl]; simp [hpf]) fun z => ?_
    exact nd3 p.1 (List.mem_map.mpr ⟨p, hpf, rfl⟩) x (List.mem_append_left _ hxr) z⟩
  have g2 : ∀ r ∈ rows3 (ps.drop (k + 1)), r ≠ [] ∧ ∀ p ∈ r, nm p.1 = p.2 := fun r hr => ⟨(rowsK_row ps k r (by rw [hK]; simp [hr])).1, fun p hp => by
    have hpf : p ∈ (rows3 (ps.drop (k + 1))).flatten := List.mem_flatten.mpr ⟨r, hr, hp⟩
    refine h p (by rw [← hfl]; simp only [List.mem_append]; exact .inr (.inr hpf)) fun z => ?_
    exact nd4 x hxr p.1 (List.mem_map.mpr ⟨p, hpf, rfl⟩) z.symm⟩
  have hev : evT nm (rowR row) = nm x := by
    obtain ⟨p, hp, e⟩ := row_ev (nm := nm) hrow
    rw [e2] at hp; cases hp; exact e
  have hlv : lastV row = u := by unfold lastV; rw [e2]
  rw [twin_ev nm h30 hkl]
  unfold restK
  rw [hK, List.map_append, List.map_append, List.map_append, List.map_append, List.map_append, List.map_append, List.sum_append, List.sum_append, List.sum_append, List.sum_append, rows_sum rs g1, rows_sum _ g2]
  simp only [List.map_cons, List.map_nil, List.sum_cons, List.sum_nil, hev, hlv]
  omega
/-! ### recipes with numbers of any size -/
noncomputable def R.GoodN : R → Prop
  | .num _ => True
  | .rd x => GName x
  | .bin _ a b => a.GoodN ∧ b.GoodN
  | .pick a b c => a.GoodN ∧ b.GoodN ∧ c.GoodN
  | .cho a ns => a.GoodN ∧ 1 ≤ ns.length ∧ ns.length ≤ 9 ∧ ∀ x ∈ ns, GName x
theorem goodN_fine : ∀ {r : R}, r.GoodN → r.Fine
  | .num _, _ => trivial
  | .rd x, h => ⟨h.2.1, fun c hc => by have := h.2.2 c hc; unfold isLow at this; omega⟩
  | .bin _ a b, h => ⟨goodN_fine h.1, goodN_fine h.2⟩
  | .pick a b c, h => ⟨goodN_fine h.1, goodN_fine h.2.1, goodN_fine h.2.2⟩
  | .cho a ns, h => ⟨goodN_fine h.1, h.2⟩
theorem szR_nodesN : ∀ (n : Nat) (r : R), r.GoodN → r.depth ≤ n → szR n r = r.nodes
  | 0, r, _, hd => absurd r.depth_pos (by omega)
  | n + 1, r, h, hd => by
    rw [szR_succ n r (goodN_fine h)]
    cases r with
    | num _ => rfl
    | rd x =>
      show (match (if GName x then some [] else none : Option (List R)) with | none => 1000 | some ks => 1 + (ks.map (szR n)).sum) = 1
      rw [if_pos (show GName x from h)]; rfl
    | bin op a b =>
      have hd' : max a.depth b.depth + 1 ≤ n + 1 := hd
      show 1 + ([a, b].map (szR n)).sum = 1 + a.nodes + b.nodes
      simp [szR_nodesN n a h.1 (by omega), szR_nodesN n b h.2 (by omega)]
      omega
    | pick a b c =>
      have hd' : max a.depth (max b.depth c.depth) + 1 ≤ n + 1 := hd
      show 1 + ([a, b, c].map (szR n)).sum = 1 + a.nodes + b.nodes + c.nodes
      simp [szR_nodesN n a h.1 (by omega), szR_nodesN n b h.2.1 (by omega), szR_nodesN n c h.2.2 (by omega)]
      omega
    | cho a ns =>
      have hd' : a.depth + 1 ≤ n + 1 := hd
      show 1 + ([a].map (szR n)).sum = 1 + a.nodes
      simp [szR_nodesN n a h.1 (by omega)]
theorem nodes100N {r : R} (hg : r.GoodN) (hd : r.depth ≤ 8) (hn : r.nodes ≤ 100) : decide (szN 8 r.toTh ≤ 100) = true := decide_eq_true (by
  have e := szR_nodesN 8 r hg hd
  have e' : szR 8 r = szN 8 r.toTh := rfl
  omega)
/-- small parts -/
noncomputable def PrtR (d n : Nat) (r : R) : Prop := r.GoodN ∧ r.depth ≤ d ∧ r.nodes ≤ n
theorem fold_part : ∀ (ps : List Rdp) (r : R) {d n : Nat}, (∀ p ∈ ps, GName p.1) → PrtR d n r → PrtR (d + ps.length) (n + ps.length) (ps.foldl (fun r q => .cho r [q.1]) r)
  | [], r, d, n, _, h => h
  | p :: ps, r, d, n, hp, h => by
    have h1 : PrtR (d + 1) (n + 1) (.cho r [p.1]) := ⟨⟨h.1, by simp, by simp, fun x hx => by
      have : x = p.1 := by simpa using hx
      rw [this]; exact hp p (by simp)⟩, by show r.depth + 1 ≤ _; have := h.2.1; omega, by show 1 + r.nodes ≤ _; have := h.2.2; omega⟩
    have h2 := fold_part ps (.cho r [p.1]) (fun q hq => hp q (by simp [hq])) h1
    rw [List.foldl_cons]
    exact ⟨h2.1, by have := h2.2.1; simp; omega, by have := h2.2.2; simp; omega⟩
theorem row_part {row : List Rdp} (h : row ≠ []) (h3 : row.length ≤ 3) (hp : ∀ p ∈ row, GName p.1) : PrtR 3 3 (rowR row) := by
  cases row with
  | nil => exact absurd rfl h
  | cons p ps =>
    have h0 : PrtR 1 1 (.rd p.1) := ⟨hp p (by simp), Nat.le_refl _, Nat.le_refl _⟩
    have h1 := fold_part ps (.rd p.1) (fun q hq => hp q (by simp [hq])) h0
    simp at h3
    have e : rowR (p :: ps) = ps.foldl (fun r q => .cho r [q.1]) (.rd p.1) := rfl
    rw [e]
    exact ⟨h1.1, by have := h1.2.1; omega, by have := h1.2.2; omega⟩
theorem sum_part {d n : Nat} : ∀ (k : Nat) (rs : List R), 1 ≤ rs.length → rs.length ≤ 2 ^ k → (∀ r ∈ rs, PrtR d n r) → (sumF k rs).GoodN ∧ (sumF k rs).depth ≤ d + k ∧ (sumF k rs).nodes + 1 ≤ rs.length * (n + 1)
  | 0, rs, h1, h2, h => by
    match rs, h1, h2 with
    | [r], _, _ =>
      have hr := h r (by simp)
      exact ⟨hr.1, by have := hr.2.1; simpa [sumF] using this, by have := hr.2.2; simp [sumF]; omega⟩
  | k + 1, rs, h1, h2, h => by
    unfold sumF
    by_cases hl : rs.length = 1
    · rw [if_pos hl]
      match rs, hl with
      | [r], _ =>
        have hr := h r (by simp)
        exact ⟨hr.1, by have := hr.2.1; show r.depth ≤ _; omega, by have := hr.2.2; simp; omega⟩
    · rw [if_neg hl]
      have e2 : 2 ^ (k + 1) = 2 * 2 ^ k := by rw [Nat.pow_succ]; omega
      rw [e2] at h2
      obtain ⟨a1, a2, a3⟩ := sum_part k (rs.take (rs.length / 2)) (by rw [List.length_take]; omega) (by rw [List.length_take]; omega) fun r hr => h r (List.mem_of_mem_take hr)
      obtain ⟨b1, b2, b3⟩ := sum_part k (rs.drop (rs.length / 2)) (by rw [List.length_drop]; omega) (by rw [List.length_drop]; omega) fun r hr => h r (List.mem_of_mem_drop hr)
      refine ⟨⟨a1, b1⟩, ?_, ?_⟩
      · show max _ _ + 1 ≤ _; omega
      · rw [List.length_take, show min (rs.length / 2) rs.length = rs.length / 2 by omega] at a3
        rw [List.length_drop] at b3
        show 1 + _ + _ + 1 ≤ _
        have : rs.length / 2 * (n + 1) + (rs.length - rs.length / 2) * (n + 1) = rs.length * (n + 1) := by rw [← Nat.add_mul]; congr 1; omega
        omega
theorem twin_part {ps : List Rdp} {k : Nat} {v : Int} (h30 : ps.length ≤ 30) (hk : k < ps.length) (hg : ∀ p ∈ ps, GName p.1) : (twinR ps k v).GoodN ∧ (twinR ps k v).depth ≤ 7 ∧ (twinR ps k v).nodes ≤ 100 := by
  have hl := rowsK_len h30 hk
  unfold twinR
  obtain ⟨a, b, c⟩ := sum_part (d := 3) (n := 3) 4 ((rowsK ps k).map rowR ++ [.num (restK ps k v)]) (by simp) (by simp; omega) fun r hr => by
    rcases List.mem_append.mp hr with z | z
    · obtain ⟨row, hrow, rfl⟩ := List.mem_map.mp z
      obtain ⟨h1, h2⟩ := rowsK_row ps k row hrow
      exact row_part h1 h2 fun p hp => hg p (by rw [← rowsK_flat ps k]; exact List.mem_flatten.mpr ⟨row, hrow, hp⟩)
    · have : r = .num (restK ps k v) := by simpa using z
      rw [this]; exact ⟨trivial, by show 1 ≤ 3; omega, by show 1 ≤ 3; omega⟩
  refine ⟨a, b, ?_⟩
  rw [List.length_append, List.length_map] at c
  simp at c
  omega
/-! ### contracts -/
inductive RowsAt (H : Hp) : List Addr → List (List Rdp) → Prop where
  | nil : RowsAt H [] []
  | cons {q : Addr} {qs as : List Addr} {row : List Rdp} {rows : List (List Rdp)} (e : H q = some (.lst (as.map V.ref))) (r : IsRds H as row) (t : RowsAt H qs rows) : RowsAt H (q :: qs) (row :: rows)
theorem RowsAt.but {S : List Addr} {H H' : Hp} (b : But S H H') (tp : Tups H H') : ∀ {qs : List Addr} {rows : List (List Rdp)}, RowsAt H qs rows → (∀ q ∈ qs, q ∉ S) → RowsAt H' qs rows
  | _, _, .nil, _ => .nil
  | _, _, .cons e r t, h => .cons (b _ _ (h _ (by simp)) e) (r.tups tp) (t.but b tp fun q hq => h q (by simp [hq]))
theorem RowsAt.same {H H' : Hp} (s : Same H H') {qs : List Addr} {rows : List (List Rdp)} (h : RowsAt H qs rows) : RowsAt H' qs rows := h.but (S := []) (But.of_same s) (Same.tups s) (by simp)
theorem RowsAt.snoc {H : Hp} {q : Addr} {as : List Addr} {row : List Rdp} (e : H q = some (.lst (as.map V.ref))) (r : IsRds H as row) : ∀ {qs : List Addr} {rows : List (List Rdp)}, RowsAt H qs rows → RowsAt H (qs ++ [q]) (rows ++ [row])
  | _, _, .nil => .cons e r .nil
  | _, _, .cons e' r' t => .cons e' r' (t.snoc e r)
theorem RowsAt.app {H : Hp} : ∀ {qs qs' : List Addr} {rows rows' : List (List Rdp)}, RowsAt H qs rows → RowsAt H qs' rows' → RowsAt H (qs ++ qs') (rows ++ rows')
  | _, _, _, _, .nil, h => h
  | _, _, _, _, .cons e r t, h => .cons e r (t.app h)
theorem RowsAt.length {H : Hp} {qs : List Addr} {rows : List (List Rdp)} (h : RowsAt H qs rows) : qs.length = rows.length := by
  induction h with
  | nil => rfl
  | cons _ _ _ ih => simp [ih]
theorem RowsAt.get {H : Hp} : ∀ {qs : List Addr} {rows : List (List Rdp)}, RowsAt H qs rows → ∀ (i : Nat) (q : Addr), qs[i]? = some q → ∃ as row, rows[i]? = some row ∧ H q = some (.lst (as.map V.ref)) ∧ IsRds H as row
  | _, _, .nil, i, q, e => by simp at e
  | _, _, .cons (q := q0) (as := as) (row := row) e0 r t, i, q, e => by
    cases i with
    | zero => have : q0 = q := by simpa using e
              subst this; exact ⟨as, row, rfl, e0, r⟩
    | succ i => exact t.get i q (by simpa using e)
theorem IsRs.take {H : Hp} {as : List Addr} {rs : List R} (h : IsRs H as rs) : ∀ k, IsRs H (as.take k) (rs.take k) := by
  induction h with
  | nil => intro k; rw [List.take_nil, List.take_nil]; exact .nil
  | cons h _ ih =>
    intro k
    cases k with
    | zero => exact .nil
    | succ k => exact .cons h (ih k)
theorem IsRs.drop {H : Hp} {as : List Addr} {rs : List R} (h : IsRs H as rs) : ∀ k, IsRs H (as.drop k) (rs.drop k) := by
  induction h with
  | nil => intro k; rw [List.drop_nil, List.drop_nil]; exact .nil
  | cons h t ih =>
    intro k
    cases k with
    | zero => exact .cons h t
    | succ k => exact ih k
theorem IsRs.same {H H' : Hp} {as : List Addr} {rs : List R} (h : IsRs H as rs) (s : Same H H') : IsRs H' as rs := h.tups (Same.tups s)
noncomputable def sp2Rows : Sp := fun vs H Q _ => ∃ (p : Addr) (as : List Addr) (ps : List Rdp), vs = [.ref p] ∧ H p = some (.lst (as.map V.ref)) ∧ IsRds H as ps ∧ ps.length ≤ 30 ∧ ∀ (q : Addr) (qs : List Addr) (H' : Hp), Same H H' → H' q = some (.lst (qs.map V.ref)) → RowsAt H' qs (rows3 ps) → Q (.ref q) H'
noncomputable def sp2Reading : Sp := fun vs H Q _ => ∃ (q : Addr) (as : List Addr) (row : List Rdp), vs = [.ref q] ∧ H q = some (.lst (as.map V.ref)) ∧ IsRds H as row ∧ row ≠ [] ∧ ∀ a H', Same H H' → IsR H' a (rowR row) → Q (.ref a) H'
noncomputable def sp2Summed (k : Nat) : Sp := fun vs H Q _ => ∃ (p : Addr) (as : List Addr) (rs : List R), vs = [.ref p] ∧ H p = some (.lst (as.map V.ref)) ∧ IsRs H as rs ∧ 1 ≤ rs.length ∧ rs.length ≤ 2 ^ k ∧ k ≤ 6 ∧ ∀ a H', Same H H' → IsR H' a (sumF k rs) → Q (.ref a) H'
/-- a record: a recipe or what else, the reads, the worth -/
noncomputable def Rc37 (H : Hp) (a : Addr) (as : List Addr) (ps : List Rdp) (wo : Int) : Prop := ∃ v l, H a = some (.tup [v, .ref l, .int wo]) ∧ H l = some (.lst (as.map V.ref)) ∧ IsRds H as ps
theorem Rc37.same {H H' : Hp} {a : Addr} {as : List Addr} {ps : List Rdp} {wo : Int} (s : Same H H') (h : Rc37 H a as ps wo) : Rc37 H' a as ps wo := let ⟨v, l, e1, e2, e3⟩ := h; ⟨v, l, s _ _ e1, s _ _ e2, e3.same s⟩
noncomputable def sp2Twin : Sp := fun vs H Q _ => ∃ (a : Addr) (k : Nat) (as : List Addr) (ps : List Rdp) (wo : Int), vs = [.ref a, .int k] ∧ Rc37 H a as ps wo ∧ ps.length ≤ 30 ∧ k < ps.length ∧ (ps.map (·.1)).Nodup ∧ (∀ p ∈ ps, GName p.1) ∧ ∀ b H', Same H H' → IsR H' b (twinR ps k wo) → Q (.ref b) H'
end RB
--END

set_option maxRecDepth 100000
--BEGIN
namespace RB
open PySem L2 PySem.Spec PyProof.Rows
/-! ### numbers given, and the law's own reckoning over them -/
structure Nm37 (H : Hp) (h nd cd st wd rd : Addr) (nm : Str → Int) (ns : List Str) : Prop where
  eh : H h = some (.tup [.ref nd, .ref cd])
  en : ∃ kvn, H nd = some (.dK kvn) ∧ ∀ x ∈ ns, valV kvn (.inr x) = some (.int (nm x))
  es : H st = some (.lst [.ref wd, .ref rd])
  ew : ∃ kw ws, H wd = some (.dK kw) ∧ Keys kw ws ∧ (∀ x ∈ ws, x ∈ ns) ∧ ∀ x ∈ ws, valV kw (.inr x) = some (.int (nm x))
  nl : ns.length ≤ 100
  gn : ∀ x ∈ ns, GName x
  nw : nd ≠ wd
section
variable {H H' : Hp} {h nd cd st wd rd : Addr} {nm : Str → Int} {ns : List Str}
theorem Nm37.same (a : Nm37 H h nd cd st wd rd nm ns) (s : Same H H') : Nm37 H' h nd cd st wd rd nm ns := by
  obtain ⟨eh, ⟨kvn, en, hn⟩, es, ⟨kw, ws, ew, r⟩, nl, gn, nw⟩ := a
  exact ⟨s _ _ eh, ⟨kvn, s _ _ en, hn⟩, s _ _ es, ⟨kw, ws, s _ _ ew, r⟩, nl, gn, nw⟩
theorem Nm37.set {rl : Addr} {xs ys : List V} (a : Nm37 H h nd cd st wd rd nm ns) (el : H rl = some (.lst xs)) (hst : rl ≠ st) : Nm37 (upd H rl (.lst ys)) h nd cd st wd rd nm ns := by
  obtain ⟨eh, ⟨kvn, en, hn⟩, es, ⟨kw, ws, ew, r⟩, nl, gn, nw⟩ := a
  have k : ∀ {z : Addr} {o : HO}, z ≠ rl → H z = some o → upd H rl (.lst ys) z = some o := fun h1 h2 => (upd_ne h1).trans h2
  exact ⟨k (fun z => by rw [z, el] at eh; cases eh) eh, ⟨kvn, k (fun z => by rw [z, el] at en; cases en) en, hn⟩, k (Ne.symm hst) es, ⟨kw, ws, k (fun z => by rw [z, el] at ew; cases ew) ew, r⟩, nl, gn, nw⟩
theorem Nm37.put {kw : List (Key × V)} {x : Str} (a : Nm37 H h nd cd st wd rd nm ns) (ew : H wd = some (.dK kw)) (hx : x ∈ ns) (hn : valV kw (.inr x) = none) : Nm37 (upd H wd (.dK (putK kw (.inr x) (.int (nm x))))) h nd cd st wd rd nm ns := by
  obtain ⟨eh, ⟨kvn, en, hkn⟩, es, ⟨kw', ws, ew', k1, k2, k3⟩, nl, gn, nw⟩ := a
  rw [ew] at ew'; cases ew'
  have hxw : x ∉ ws := k1.none.mp hn
  have k : ∀ {z : Addr} {o : HO}, z ≠ wd → H z = some o → upd H wd (.dK (putK kw (.inr x) (.int (nm x)))) z = some o := fun h1 h2 => (upd_ne h1).trans h2
  refine ⟨k (fun z => by rw [z, ew] at eh; cases eh) eh, ⟨kvn, k nw en, hkn⟩, k (fun z => by rw [z, ew] at es; cases es) es, ⟨_, _, upd_same, k1.putNew hxw _, fun y hy => ?_, fun y hy => ?_⟩, nl, gn, nw⟩
  · rcases List.mem_append.mp hy with z | z
    · exact k2 y z
    · have : y = x := by simpa using z
      rw [this]; exact hx
  · rw [valV_put]
    by_cases z : y = x
    · rw [if_pos (by rw [z]), z]
    · rw [if_neg (inr_ne z)]
      rcases List.mem_append.mp hy with w | w
      · exact k3 y w
      · exact absurd (by simpa using w) z
theorem Nm37.wl {kw : List (Key × V)} (a : Nm37 H h nd cd st wd rd nm ns) (ew : H wd = some (.dK kw)) : kw.length ≤ 100 := by
  obtain ⟨kw', ws, ew', k1, k2, _⟩ := a.ew
  rw [ew] at ew'; cases ew'
  rw [k1.len]
  exact Nat.le_trans (nodup_len k1.nd k2) a.nl
end
noncomputable def spNo : Sp := fun _ _ _ _ => False
noncomputable def sp37Set : Sp := fun vs H Q _ => ∃ (h nd cd st wd rd : Addr) (nm : Str → Int) (ns : List Str) (x : Str), vs = [.ref h, .str x, .ref st] ∧ Nm37 H h nd cd st wd rd nm ns ∧ x ∈ ns ∧ ∀ H', But [wd] H H' → Nm37 H' h nd cd st wd rd nm ns → Q (.int (nm x)) H'
noncomputable def sp37Lk : Sp := fun vs H Q _ => ∃ (h nd cd st wd rd rl : Addr) (nm : Str → Int) (ns : List Str) (x : Str) (as : List Addr) (ps : List Rdp), vs = [.ref h, .str x, .ref st, .ref rl] ∧ Nm37 H h nd cd st wd rd nm ns ∧ x ∈ ns ∧ H rl = some (.lst (as.map V.ref)) ∧ IsRds H as ps ∧ ps.length ≤ 500 ∧ (∀ p ∈ ps, GName p.1) ∧ rl ≠ st ∧
  ∀ (as' : List Addr) (H' : Hp), But [wd, rl] H H' → Nm37 H' h nd cd st wd rd nm ns → H' rl = some (.lst (as'.map V.ref)) → IsRds H' as' (addR nm ps x) → Q (.int (nm x)) H'
/-- sums of reads, chosen or not, and numbers -/
noncomputable def R.Pl (ns : List Str) : R → Prop
  | .num _ => True
  | .rd x => x ∈ ns
  | .bin op a b => op = .plus ∧ a.Pl ns ∧ b.Pl ns
  | .pick _ _ _ => False
  | .cho a xs => a.Pl ns ∧ 1 ≤ xs.length ∧ ∀ x ∈ xs, x ∈ ns
theorem add_len (nm : Str → Int) (ps : List Rdp) (x : Str) : (addR nm ps x).length ≤ ps.length + 1 := by
  unfold addR
  split
  · omega
  · rw [List.length_append]; exact Nat.le_refl _
theorem add_gn {nm : Str → Int} {ps : List Rdp} {x : Str} (h : ∀ p ∈ ps, GName p.1) (hx : GName x) : ∀ p ∈ addR nm ps x, GName p.1 := fun p hp => by
  unfold addR at hp
  split at hp
  · exact h p hp
  · rcases List.mem_append.mp hp with z | z
    · exact h p z
    · have : p = (x, nm x) := by simpa using z
      rw [this]; exact hx
theorem rd_len (nm : Str → Int) : ∀ (r : R) (ps : List Rdp), (rdT2 nm r ps).length ≤ ps.length + r.nodes
  | .num _, ps => by show ps.length ≤ ps.length + 1; omega
  | .rd x, ps => add_len nm ps x
  | .bin _ a b, ps => by
    have h1 := rd_len nm a ps
    have h2 := rd_len nm b (rdT2 nm a ps)
    show (rdT2 nm b (rdT2 nm a ps)).length ≤ ps.length + (1 + a.nodes + b.nodes); omega
  | .pick a b c, ps => by
    have h1 := rd_len nm a ps
    have h2 := rd_len nm b (rdT2 nm a ps)
    have h3 := rd_len nm c (rdT2 nm a ps)
    show (if evT nm a > 0 then rdT2 nm b (rdT2 nm a ps) else rdT2 nm c (rdT2 nm a ps)).length ≤ ps.length + (1 + a.nodes + b.nodes + c.nodes)
    split <;> omega
  | .cho a ns, ps => by
    have h1 := rd_len nm a ps
    show (match pickN ns (evT nm a) with | some x => addR nm (rdT2 nm a ps) x | none => rdT2 nm a ps).length ≤ ps.length + (1 + a.nodes)
    split
    · have := add_len nm (rdT2 nm a ps) (by assumption); omega
    · omega
theorem rd_gn {nm : Str → Int} {ns : List Str} (hn : ∀ x ∈ ns, GName x) : ∀ {r : R} {ps : List Rdp}, r.Pl ns → (∀ p ∈ ps, GName p.1) → ∀ p ∈ rdT2 nm r ps, GName p.1
  | .num _, ps, _, h => h
  | .rd x, ps, hr, h => add_gn h (hn x hr)
  | .bin _ a b, ps, hr, h => rd_gn (r := b) (ps := rdT2 nm a ps) hn hr.2.2 (rd_gn (r := a) (ps := ps) hn hr.2.1 h)
  | .pick _ _ _, ps, hr, h => hr.elim
  | .cho a xs, ps, hr, h => by
    have h1 := rd_gn (nm := nm) (r := a) (ps := ps) hn hr.1 h
    obtain ⟨x, hx⟩ := pick_some hr.2.1 (evT nm a)
    show ∀ p ∈ (match pickN xs (evT nm a) with | some x => addR nm (rdT2 nm a ps) x | none => rdT2 nm a ps), GName p.1
    rw [hx]
    exact add_gn h1 (hn x (hr.2.2 x (List.mem_of_getElem? hx)))
noncomputable def sp37Vl (d : Nat) : Sp := fun vs H Q _ => ∃ (h nd cd st wd rd rl b : Addr) (nm : Str → Int) (ns : List Str) (r : R) (as : List Addr) (ps : List Rdp), vs = [.ref h, .ref b, .ref st, .ref rl] ∧ Nm37 H h nd cd st wd rd nm ns ∧ IsR H b r ∧ r.depth ≤ d ∧ r.Pl ns ∧ H rl = some (.lst (as.map V.ref)) ∧ IsRds H as ps ∧ ps.length + r.nodes ≤ 500 ∧ (∀ p ∈ ps, GName p.1) ∧ rl ≠ st ∧
  ∀ (as' : List Addr) (H' : Hp), But [wd, rl] H H' → Nm37 H' h nd cd st wd rd nm ns → H' rl = some (.lst (as'.map V.ref)) → IsRds H' as' (rdT2 nm r ps) → Q (.int (evT nm r)) H'
noncomputable def RowN (H : Hp) (p : Addr) (n d : Nat) : Prop := ∃ as : List Addr, H p = some (.lst (as.map V.ref)) ∧ as.length = n ∧ ∀ a ∈ as, ∃ r, IsR H a r ∧ r.GoodN ∧ r.depth ≤ d
theorem RowN.add {H : Hp} {p x : Addr} {n d : Nat} {as : List Addr} {r : R} (e : H p = some (.lst (as.map V.ref))) (el : as.length = n) (hall : ∀ a ∈ as, ∃ r, IsR H a r ∧ r.GoodN ∧ r.depth ≤ d) (h : IsR H x r) (hg : r.GoodN) (hd : r.depth ≤ d) :
    RowN (upd H p (.lst (as.map V.ref ++ [.ref x]))) p (n + 1) d := by
  refine ⟨as ++ [x], by rw [upd_same, List.map_append]; rfl, by rw [List.length_append, el]; rfl, fun a ha => ?_⟩
  rcases List.mem_append.mp ha with z | z
  · obtain ⟨s, h1, h2, h3⟩ := hall a z
    exact ⟨s, h1.tups (tups_set _ e), h2, h3⟩
  · have : a = x := by simpa using z
    rw [this]
    exact ⟨r, h.tups (tups_set _ e), hg, hd⟩
noncomputable def sp37Sum : Sp := fun vs H Q _ => ∃ (l : Addr) (wo : Int) (as : List Addr) (ps : List Rdp), vs = [.ref l, .int wo] ∧ H l = some (.lst (as.map V.ref)) ∧ IsRds H as ps ∧ ps.length ≤ 29 ∧ (∀ x ∈ ps, GName x.1) ∧
  ∀ a r H', Same H H' → IsR H' a r → r.GoodN → r.depth ≤ 8 → Q (.ref a) H'
theorem R.layN : ∀ r : R, r.GoodN → r.dat.canLay0 = true
  | .num n, _ => by show (PyData.strOk "number" && (true && true)) = true; decide +kernel
  | .rd x, h => by
    show (PyData.strOk "read" && (PyData.strOk x && true)) = true
    rw [strOk_name h]; decide +kernel
  | .bin op a b, h => by
    show (PyData.strOk op.word && (a.dat.canLay0 && (b.dat.canLay0 && true))) = true
    rw [strOk_word, R.layN a h.1, R.layN b h.2]; rfl
  | .pick a b c, h => by
    show (PyData.strOk "pick" && (a.dat.canLay0 && (b.dat.canLay0 && (c.dat.canLay0 && true)))) = true
    rw [R.layN a h.1, R.layN b h.2.1, R.layN c h.2.2]; decide +kernel
  | .cho a ns, h => by
    show (PyData.strOk "choose" && (a.dat.canLay0 && (PyData.canLayAll0 (ns.map PyData.str) && true))) = true
    rw [R.layN a h.1, lay_names ns h.2.2.2]; decide +kernel
noncomputable def sp2Cell (K : PySem.W.Frag) : Sp := fun vs H Q _ => ∃ (a : Addr) (ns : List Int) (k : Int), vs = [.ref a, .int k] ∧ SqL K H a (ns.map V.int) ∧ 0 ≤ k ∧ Q (.int (ns.getD k.toNat 0)) H
noncomputable def nms37 : List Str := names26 ++ [("qz" : Str), "xz", "jz"]
noncomputable def ix37 (c : Int) (i : Nat) : Nat := if i < 26 then (((i : Int) * 3 + c) % 26).toNat else i
noncomputable def nm37 (c : Int) (i : Nat) : Str := nms37.getD (ix37 c i) ""
theorem nms37_len : nms37.length = 29 := by decide +kernel
theorem ix37_lt {c : Int} {i : Nat} (h : i < 29) : ix37 c i < 29 := by
  unfold ix37
  split
  · have := Int.emod_lt_of_pos ((i : Int) * 3 + c) (show (0 : Int) < 26 by decide)
    omega
  · exact h
theorem ix37_inj {c : Int} {i j : Nat} (hi : i < 29) (hj : j < 29) (h : ix37 c i = ix37 c j) : i = j := by
  have h1 := Int.emod_lt_of_pos ((i : Int) * 3 + c) (show (0 : Int) < 26 by decide)
  have h2 := Int.emod_lt_of_pos ((j : Int) * 3 + c) (show (0 : Int) < 26 by decide)
  have h3 := Int.emod_nonneg ((i : Int) * 3 + c) (show (26 : Int) ≠ 0 by decide)
  have h4 := Int.emod_nonneg ((j : Int) * 3 + c) (show (26 : Int) ≠ 0 by decide)
  unfold ix37 at h
  split at h <;> split at h <;> omega
theorem nm37_at {c : Int} {i : Nat} (h : i < 29) : nms37[ix37 c i]? = some (nm37 c i) := by
  have hl := ix37_lt (c := c) h
  unfold nm37
  rw [List.getD_eq_getElem?_getD, List.getElem?_eq_getElem (by rw [nms37_len]; exact hl)]
  rfl
theorem nm37_good {c : Int} {i : Nat} (h : i < 29) : GName (nm37 c i) := names26_good _ (List.mem_of_getElem? (nm37_at h))
theorem nm37_nodup {c : Int} {m : Nat} (h : m ≤ 29) : ((List.range m).map (nm37 c)).Nodup := by
  rw [List.Nodup, List.pairwise_map]
  refine List.pairwise_lt_range.imp_of_mem fun {a b} ha hb hlt z => ?_
  have ha' := List.mem_range.mp ha
  have hb' := List.mem_range.mp hb
  have e1 := nm37_at (c := c) (i := a) (by omega)
  have e2 := nm37_at (c := c) (i := b) (by omega)
  rw [z] at e1
  have hl := ix37_lt (c := c) (i := a) (by omega)
  have hnd : nms37.Nodup := names26_nodup
  have hz : ix37 c a = ix37 c b := (List.getElem?_inj (l := nms37) (by rw [nms37_len]; exact hl) hnd).mp (e1.trans e2.symm)
  have := ix37_inj (c := c) (by omega) (by omega) hz
  omega
theorem nm37_low {c : Int} {i : Nat} (h : i < 26) : nm37 c i = nameK (((i : Int) * 3 + c) % 26).toNat := by
  have e := nm37_at (c := c) (i := i) (by omega)
  have h1 := Int.emod_lt_of_pos ((i : Int) * 3 + c) (show (0 : Int) < 26 by decide)
  have h3 := Int.emod_nonneg ((i : Int) * 3 + c) (show (26 : Int) ≠ 0 by decide)
  unfold ix37 at e
  rw [if_pos h] at e
  have hk : (((i : Int) * 3 + c) % 26).toNat < 26 := by omega
  generalize (((i : Int) * 3 + c) % 26).toNat = k at *
  have e2 : nms37[k]? = some (nameK k) := by
    unfold nms37 names26
    rw [List.getElem?_append_left (by rw [List.length_map, List.length_range]; exact hk), List.getElem?_map, List.getElem?_range hk]; rfl
  rw [e2] at e
  exact (Option.some.inj e).symm
theorem nm37_high {c : Int} {i : Nat} (h : 26 ≤ i) (h2 : i < 29) : atI [V.str "qz", V.str "xz", V.str "jz"] ((i : Int) - 26) = some (.str (nm37 c i)) := by
  have e := nm37_at (c := c) h2
  unfold ix37 at e
  rw [if_neg (by omega)] at e
  have hi : i = 26 ∨ i = 27 ∨ i = 28 := by omega
  rcases hi with rfl | rfl | rfl
  · have : nms37[26]? = some ("qz" : Str) := by decide +kernel
    rw [this] at e; rw [← Option.some.inj e]; rfl
  · have : nms37[27]? = some ("xz" : Str) := by decide +kernel
    rw [this] at e; rw [← Option.some.inj e]; rfl
  · have : nms37[28]? = some ("jz" : Str) := by decide +kernel
    rw [this] at e; rw [← Option.some.inj e]; rfl
noncomputable def sp37Rec (K : PySem.W.Frag) : Sp := fun vs H Q _ => ∃ (a : Addr) (zs : List Int), vs = [.ref a] ∧ SqL K H a (zs.map V.int) ∧
  ∀ (t b l : Addr) (r : R) (as : List Addr) (ps : List Rdp) (wo : Int) (H' : Hp), Same H H' → H' t = some (.tup [.ref b, .ref l, .int wo]) → IsR H' b r → r.GoodN → r.depth ≤ 8 → H' l = some (.lst (as.map V.ref)) → IsRds H' as ps → 1 ≤ ps.length → ps.length ≤ 29 → (ps.map (·.1)).Nodup → (∀ p ∈ ps, GName p.1) → Q (.ref t) H'
end RB
--END

set_option maxRecDepth 100000
--BEGIN
namespace L2
open PySem PySem.Spec PyProof.Rows
theorem call_maxL {X : Cx} (hc : X.calm = true) : CallR X (.builtin "max") (fun xs H Q => ∃ (p : Addr) (ns : List Int), xs = [V.ref p] ∧ SqL X.K H p (ns.map V.int) ∧ 0 < ns.length ∧ ∀ M, M ∈ ns → (∀ a, a ∈ ns → a ≤ M) → Q (.int M) H) := by
  intro pins s σ H xs us Q I r h
  obtain ⟨p, ns, rfl, hp, hne, q⟩ := h
  obtain ⟨u, rfl, ru⟩ := Vals.one r
  cases (show u = Value.ref p from ru)
  obtain ⟨its, rv, pl, hz⟩ := I.list hp
  have hi := intsAre_of rv
  have hl := pl.isList
  obtain ⟨xs, e⟩ := hi.allInts.items
  have hns : ns = xs.toList.map (·.1) := by
    rw [← hi.numsOf, ← nums_intItems, ← e]
  have hsz : 0 < xs.size := by
    have h3 := hne; rw [hns, List.length_map, Array.length_toList] at h3; exact h3
  rw [e] at hl
  refine max_intList (I.ok.hd hc) hl hsz fun v h' tk hv hk => ?_
  obtain ⟨t, rfl⟩ := intItems_at hv
  obtain ⟨h1, h2⟩ := argBest_gt (numAt xs) (xs.size - 1)
  refine ⟨.int _, H, I.kept (t' := tk) hk, ⟨t, rfl⟩, q _ ?_ fun a ha => ?_⟩
  · rw [hns, numAt_eq]; exact getD_mem (by rw [List.length_map, Array.length_toList]; omega)
  · rw [hns] at ha
    obtain ⟨j, hj, rfl⟩ := mem_getD ha
    rw [List.length_map, Array.length_toList] at hj
    rw [← numAt_eq]; exact h2 j (by omega)
theorem qc_maxL {X : Cx} (hc : X.calm = true) : QCall X (.builtin "max") (fun xs H Q => ∃ (p : Addr) (ns : List Int), xs = [V.ref p] ∧ SqL X.K H p (ns.map V.int) ∧ 0 < ns.length ∧ ∀ M, M ∈ ns → (∀ a, a ∈ ns → a ≤ M) → Q (.int M) H) := ⟨call_maxL hc⟩
end L2
namespace RB
open PySem L2 PySem.Spec PyProof.Rows
/-! ### a list of a word and a number, in a list of such -/
noncomputable def wnT (p : Rdp) : PyData := .list [.str p.1, .int p.2]
theorem wnT_eqv (p t : Rdp) : PyData.eqv (wnT p) (wnT t) = decide (p = t) := by
  obtain ⟨a, i⟩ := p
  obtain ⟨b, j⟩ := t
  simp only [wnT, PyData.eqv, PyData.eqvAll]
  by_cases h1 : a = b
  · by_cases h2 : i = j
    · simp [h1, h2]
    · simp [h1, h2]
  · simp [h1]
theorem wnT_shaped {p : Rdp} (h : PyData.strOk p.1 = true) : SeqAt.shaped (wnT p) = true := by
  have h5 : (wnT p).canLay0 = true := by
    show (PyData.strOk p.1 && (true && true)) = true
    rw [h]; rfl
  have h4 : (wnT p).depth ≤ 64 := by simp only [wnT, PyData.depth, PyData.depthAll]; omega
  show (_ && decide _) = true
  rw [h5, decide_eq_true h4]; rfl
open Classical in
noncomputable def isW (H : Hp) (t : Rdp) : Value → Bool
  | .ref a => decide (H a = some (.lst (rdV t)))
  | _ => false
open Classical in
theorem isW_yes {H : Hp} {t : Rdp} {a : Addr} (h : H a = some (.lst (rdV t))) : isW H t (.ref a) = true := by
  unfold isW
  exact decide_eq_true h
open Classical in
theorem isW_no {H : Hp} {t : Rdp} {a : Addr} (h : ¬ H a = some (.lst (rdV t))) : isW H t (.ref a) = false := by
  unfold isW
  exact decide_eq_false h
inductive IsWs (H : Hp) : List Addr → List Rdp → Prop where
  | nil : IsWs H [] []
  | cons {a : Addr} {p : Rdp} {as : List Addr} {ps : List Rdp} (h : H a = some (.lst (rdV p))) (g : IsWs H as ps) : IsWs H (a :: as) (p :: ps)
theorem IsWs.get {H : Hp} {as : List Addr} {ps : List Rdp} (h : IsWs H as ps) : ∀ (i : Nat) (a : Addr), as[i]? = some a → ∃ p, ps[i]? = some p ∧ H a = some (.lst (rdV p)) := by
  induction h with
  | nil => intro i a h; cases h
  | cons h g ih =>
    intro i a e
    cases i with
    | zero => cases e; exact ⟨_, rfl, h⟩
    | succ i => exact ih i a e
theorem any_isW {H : Hp} {t : Rdp} : ∀ {as : List Addr} {ps : List Rdp} {its : List Value}, IsWs H as ps → Vals (as.map V.ref) its → its.any (isW H t) = decide (t ∈ ps)
  | _, _, _, .nil, r => by cases r; simp
  | _, _, _, .cons (a := a) (p := p) (as := as) (ps := ps) h g, r => by
    cases r with
    | cons r1 r2 =>
      cases r1
      rw [List.any_cons, any_isW g r2]
      have e : isW H t (.ref a) = decide (t = p) := by
        by_cases z : t = p
        · rw [decide_eq_true z, isW_yes (by rw [z]; exact h)]
        · rw [decide_eq_false z, isW_no (fun w => z (rdV_inj (by rw [h] at w; exact (HO.lst.inj (Option.some.inj w)).symm)))]
      rw [e]
      by_cases z : t = p
      · simp [z]
      · simp [z]
theorem op_notInW {X : Cx} (hu : X.A.units + 64 < cLine) : OpR X (compareOp .NotIn) (fun x y H Q => ∃ (a l : Addr) (as : List Addr) (ps : List Rdp) (t : Rdp), x = .ref a ∧ y = .ref l ∧ H a = some (.lst (rdV t)) ∧ SqL X.K H l (as.map V.ref) ∧ IsWs H as ps ∧ (∀ p ∈ ps, PyData.strOk p.1 = true) ∧ PyData.strOk t.1 = true ∧ Q (.bl (!decide (t ∈ ps))) H) := by
  intro pins s σ H x y v u Q I rx ry h
  obtain ⟨a, l, as, ps, t, rfl, rfl, ha, hl, hR, hg, ht, q⟩ := h
  cases rx
  cases ry
  obtain ⟨its, r, pl, _⟩ := I.list hl
  have dt : DatV X.K H (.ref a) (wnT t) := .lst (SqL.of ha) (.cons (.str _) (.cons (.int _) .nil))
  obtain ⟨bs, rt⟩ := dt.reads I (show RelV (.ref a) (.ref a) from rfl)
  refine SeqAt.notIn_listAt (isW H t) pl.isList (fun y hy => ?_) ⟨.bl _, H, I, rfl, ?_⟩
  · have hy : y ∈ its := by simpa using hy
    obtain ⟨i, hi⟩ := List.getElem?_of_mem hy
    have hli : i < (as.map V.ref).length := by
      have := (List.getElem?_eq_some_iff.mp hi).1
      rw [r.length]; exact this
    have hx : (as.map V.ref)[i]? = some ((as.map V.ref)[i]) := List.getElem?_eq_getElem hli
    obtain ⟨c, hc, ec⟩ := ref_at hx
    obtain ⟨p, hp, ep⟩ := hR.get i c hc
    obtain ⟨z, hz, rz⟩ := r.get hx
    rw [hi] at hz
    cases hz
    rw [ec] at rz
    cases rz
    have dp : DatV X.K H (.ref c) (wnT p) := .lst (SqL.of ep) (.cons (.str _) (.cons (.int _) .nil))
    obtain ⟨cs, rp⟩ := dp.reads I (show RelV (.ref c) (.ref c) from rfl)
    have k : SeqAt.EqAt X.A.in1 s (.ref c) (.ref a) (PyData.eqv (wnT p) (wnT t)) := SeqAt.eqAt_reads _ _ _ _ _ _ _ _ rp rt (SeqAt.canLay_of_shaped (wnT_shaped (hg p (List.mem_of_getElem? hp)))) (SeqAt.canLay_of_shaped (wnT_shaped ht)) (by
      have h1 : (wnT p).depth ≤ 4 := by simp only [wnT, PyData.depth, PyData.depthAll]; omega
      have h2 : min (wnT p).depth (wnT t).depth ≤ (wnT p).depth := Nat.min_le_left _ _
      have h3 : X.A.in1.units = X.A.units + 1 := rfl
      omega)
    rw [wnT_eqv] at k
    have e : isW H t (.ref c) = decide (p = t) := by
      by_cases z : p = t
      · rw [decide_eq_true z, isW_yes (by rw [← z]; exact ep)]
      · rw [decide_eq_false z, isW_no (fun w => z (rdV_inj (by rw [ep] at w; exact HO.lst.inj (Option.some.inj w))))]
    rw [e]; exact k
  · rw [show its.toArray.any (isW H t) = its.any (isW H t) by simp, any_isW hR r]
    exact q
theorem qop_notInW {X : Cx} (hu : X.A.units + 64 < cLine) : QOp X (compareOp .NotIn) (fun x y H Q => ∃ (a l : Addr) (as : List Addr) (ps : List Rdp) (t : Rdp), x = .ref a ∧ y = .ref l ∧ H a = some (.lst (rdV t)) ∧ SqL X.K H l (as.map V.ref) ∧ IsWs H as ps ∧ (∀ p ∈ ps, PyData.strOk p.1 = true) ∧ PyData.strOk t.1 = true ∧ Q (.bl (!decide (t ∈ ps))) H) := ⟨op_notInW hu⟩
/-- sums and choices only -/
noncomputable def R.Plus : R → Prop
  | .num _ => True
  | .rd _ => True
  | .bin op a b => op = .plus ∧ a.Plus ∧ b.Plus
  | .pick _ _ _ => False
  | .cho a _ => a.Plus
theorem R.nodes1 : ∀ r : R, 1 ≤ r.nodes
  | .num _ => Nat.le_refl _
  | .rd _ => Nat.le_refl _
  | .bin _ a b => by show 1 ≤ 1 + a.nodes + b.nodes; omega
  | .pick a b c => by show 1 ≤ 1 + a.nodes + b.nodes + c.nodes; omega
  | .cho a _ => by show 1 ≤ 1 + a.nodes; omega
noncomputable def prV (r : R) : List V := [.int (r.nodes : Int), .int (r.depth : Int)]
inductive IsPs (H : Hp) : List Addr → List R → Prop where
  | nil : IsPs H [] []
  | cons {a : Addr} {r : R} {as : List Addr} {rs : List R} (h : H a = some (.lst (prV r))) (g : IsPs H as rs) : IsPs H (a :: as) (r :: rs)
theorem IsPs.get {H : Hp} {as : List Addr} {ps : List R} (h : IsPs H as ps) : ∀ (i : Nat) (a : Addr), as[i]? = some a → ∃ p, ps[i]? = some p ∧ H a = some (.lst (prV p)) := by
  induction h with
  | nil => intro i a h; cases h
  | cons h g ih =>
    intro i a e
    cases i with
    | zero => cases e; exact ⟨_, rfl, h⟩
    | succ i => exact ih i a e
theorem IsPs.same {H H' : Hp} {as : List Addr} {ps : List R} (h : IsPs H as ps) (s : Same H H') : IsPs H' as ps := by
  induction h with
  | nil => exact .nil
  | cons h g ih => exact .cons (s _ _ h) ih
theorem IsPs.set {H : Hp} {as : List Addr} {ps : List R} {D : Addr} {ls : List Addr} {ys : List V} (h : IsPs H as ps) (e : H D = some (.lst (ls.map V.ref))) : IsPs (upd H D (.lst ys)) as ps := by
  induction h with
  | nil => exact .nil
  | cons h g ih =>
    refine .cons ((upd_ne (fun z => ?_)).trans h) ih
    rw [z, e] at h
    rcases ls with _ | ⟨l, ls⟩
    · cases h
    · cases h
theorem IsPs.snoc {H : Hp} {a : Addr} {r : R} (h : H a = some (.lst (prV r))) : ∀ {as : List Addr} {rs : List R}, IsPs H as rs → IsPs H (as ++ [a]) (rs ++ [r])
  | _, _, .nil => .cons h .nil
  | _, _, .cons h1 g => .cons h1 (IsPs.snoc h g)
theorem IsPs.length {H : Hp} {as : List Addr} {ps : List R} (h : IsPs H as ps) : as.length = ps.length := by
  induction h with
  | nil => rfl
  | cons h g ih => rw [List.length_cons, List.length_cons, ih]
theorem IsRs.get2 {H : Hp} {as : List Addr} {rs : List R} (h : IsRs H as rs) : ∀ (i : Nat) (a : Addr), as[i]? = some a → ∃ r, rs[i]? = some r ∧ IsR H a r := by
  induction h with
  | nil => intro i a h; cases h
  | cons h g ih =>
    intro i a e
    cases i with
    | zero => cases e; exact ⟨_, rfl, h⟩
    | succ i => exact ih i a e
noncomputable def spParts (d : Nat) : Sp := fun vs H Q _ => ∃ (a : Addr) (r : R), vs = [.ref a] ∧ IsR H a r ∧ r.GoodN ∧ r.Plus ∧ r.depth ≤ d ∧ d ≤ 8 ∧ ∀ l H', Same H H' → H' l = some (.lst [.int (r.nodes : Int), .int (r.depth : Int)]) → Q (.ref l) H'
noncomputable def sp37Wk : Sp := fun vs H Q _ => ∃ (b nd : Addr) (nm : Str → Int) (ns : List Str) (r : R) (kvn : List (Key × V)), vs = [.ref b, .ref nd] ∧ IsR H b r ∧ r.depth ≤ 7 ∧ r.Pl ns ∧ r.nodes ≤ 100 ∧ H nd = some (.dK kvn) ∧ (∀ x ∈ ns, valV kvn (.inr x) = some (.int (nm x))) ∧ ns.length ≤ 100 ∧ (∀ x ∈ ns, GName x) ∧
  ∀ (l rl : Addr) (as : List Addr) (H' : Hp), Same H H' → H' l = some (.lst [.int (evT nm r), .ref rl]) → H' rl = some (.lst (as.map V.ref)) → IsRds H' as (rdT2 nm r []) → Q (.ref l) H'
end RB
--END

set_option maxRecDepth 100000
--BEGIN
namespace L2
open PySem PySem.Spec PyProof.Rows
/-! ### dict(pairs) -/
theorem getAttrQ_miss_list {prog : Program} {w : World} {A : Around} {E : Value → Shared → Prop} {s : Shared} {a : Addr} {o : Obj} {xs : Array Value} {k : Nat} {name : Str} {Q : Option Value → Shared → Prop}
    (hx : s.heap.get? a = some o) (hc : o.cls = .type "list") (hdat : o.data = .seq xs k) (hd : o.dict = none) (hmiss : typeLookup (.type "list") name = pure none) (hname : (["__module__", "__name__", "__qualname__", "__doc__", "__annotations__"] : List Str).contains name = false) (hA : A.handled = none)
    (h : ∀ h' tk, (∀ b o, s.heap.get? b = some o → h'.get? b = some o) → Q none { s with heap := h', toks := tk }) (hsz : name.length + 100 ≤ sizeLine) :
    wpAny (model prog w) A (getAttr? (.ref a) name) Q E s := by
  obtain ⟨c, dct, dat, sl⟩ := o
  simp only at hc hdat hd
  subst hc hdat hd
  obtain ⟨hp, g, d, tk, os⟩ := s
  have hT : ∀ tk', (⟨hp, g, d, tk', os⟩ : Shared).TypeIs (.ref a) "list" := fun _ => ⟨_, hx, rfl⟩
  have f1 := sub_AttributeError
  have f3 := PySem.F.slot_list_getattribute.lookup
  have f4 := PySem.F.slot_list_getattribute.bind (.ref a)
  have f5 := am_list_getattr_none
  unfold getAttr? getAttrBy? getAttrBy
  repeat (any_goals (first | assumption | exact hT _ | ((with_reducible show wpAny _ _ (call (Value.builtin "list.__getattribute__") _ _) _ _ _); refine call_meets PySem.F.slot_list_getattribute (hT _) am_entry_list_getattribute (PySem.F.args_list_getattribute_2 _ _) (meets_getattribute_miss_list a xs k sl name _ hmiss hname hsz) ⟨hx, hA, fun h' tk' e hx' => ?_⟩) | wp_step))
  obtain ⟨t', u', he⟩ := hx'.there
  show wpAny _ _ (getattributeRaised _ _ _ _ _ _ _) _ _ _
  unfold getattributeRaised
  repeat (any_goals (first | assumption | wp_step))
  exact h _ _ hx'.keeps
theorem plain_du_loop : plainId "dict.update.loop" = true := by decide +kernel
theorem entry_du_loop : entryFor table "dict.update.loop" = some Builtin.«dict.update.loop» := entryFor_of_tree (by kernel_rfl)
theorem miss_list_keys : typeLookup (.type "list") "keys" = pure none := am_miss_of_fast (by kernel_rfl)
/-- a pair as it lies on the heap: its place, its key, what it holds -/
structure PairAt (h : Heap) (a : Addr) (x : Str) (v : Value) : Prop where
  h : ∃ u, IsTup h a #[.str x u, v]
theorem pairItems_tup {prog : Program} {w : World} {A : Around} {E : Value → Shared → Prop} {s : Shared} {a : Addr} {its : Array Value} {Q : List Value → Shared → Prop} (ht : IsTup s.heap a its) (h : Q its.toList s) :
    wpAny (model prog w) A (Builtin.Dict.pairItems (.ref a)) Q E s := by
  obtain ⟨o, ho, hc, n, hd⟩ := ht
  unfold Builtin.Dict.pairItems
  refine wpAny_bind (wpAny_typeOf (T := "tuple") ⟨o, ho, hc⟩ ?_)
  rw [if_pos (by decide)]
  unfold seqItems?
  refine wpAny_bind (wpAny_bind (wpAny_load ho ?_))
  rw [hd]
  exact wpAny_pure (wpAny_pure h)
theorem du_loop {prog : Program} {w : World} {A : Around} {R : Result → Shared → Prop} {d it l : Addr} {ts : List (Addr × Str × Value)} (hh : A.handled = none) (hdi : d ≠ it) (hdl : d ≠ l) (hil : it ≠ l) (hlen : ts.length ≤ 1000) :
    ∀ (k i : Nat) (tk : Tok) (s : Shared) (kvs : List (Key × Value)), ts.length - i = k → i ≤ ts.length → s.heap.IsListIter it l i → s.heap.IsList l (ts.map fun t => Value.ref t.1).toArray → s.heap.DictOf (mixKind prog w) d kvs → kvs.length ≤ i →
    (∀ t ∈ ts, t.1 ≠ it ∧ t.1 ≠ d ∧ PairAt s.heap t.1 t.2.1 t.2.2) →
    (∀ h' tk', (∀ b o, b ≠ it → b ≠ d → s.heap.get? b = some o → h'.get? b = some o) → h'.DictOf (mixKind prog w) d ((ts.drop i).foldl (fun kv t => stored kv (.inr t.2.1) t.2.2) kvs) → R (.ok (.ret .none)) { s with heap := h', toks := tk' }) →
    codeAny (model prog w) A (.builtin "dict.update.loop" ⟨[.ref d, .ref it, .int i tk, .none], []⟩) R s := by
  intro k
  induction k with
  | zero =>
    intro i tk s kvs hk hi hit hl hd hkl hp hR
    have hin : i = ts.length := by omega
    subst hin
    refine codeAny_builtin entry_du_loop ?_
    rw [Around.under_plainId plain_du_loop _]
    show wpAny _ A.in1 (pyNext (.ref it) >>= _) _ _ s
    refine wpAny_bind (wpAny_pyNext_list_end hh hit hl (by simp) fun h' hx => ?_)
    show wpAny _ A.in1 (Builtin.Dict.addKeywords d [] >>= _) _ _ _
    refine wpAny_bind (wpAny_pure (wpAny_pure ?_))
    have := hR h' s.toks (fun b o hb _ e => hx b o hb e) (by rw [List.drop_length]; exact hd.extBut hx hdi)
    exact this
  | succ k ih =>
    intro i tk s kvs hk hi hit hl hd hkl hp hR
    have hlt : i < ts.length := by omega
    obtain ⟨t, ht⟩ : ∃ t, ts[i]? = some t := ⟨_, List.getElem?_eq_getElem hlt⟩
    obtain ⟨hti, htd, ⟨u, hpt⟩⟩ := hp t (List.mem_of_getElem? ht)
    refine codeAny_builtin entry_du_loop ?_
    rw [Around.under_plainId plain_du_loop _]
    show wpAny _ A.in1 (pyNext (.ref it) >>= _) _ _ s
    refine wpAny_bind (wpAny_pyNext_list_item hit hl (x := .ref t.1) (by simp [ht]) fun h1 hit1 hs1 => ?_)
    have keep1 : ∀ b o, b ≠ it → s.heap.get? b = some o → h1.get? b = some o := fun b o hb e => (hs1.2 b hb).trans e
    have hpt1 : IsTup h1 t.1 #[.str t.2.1 u, t.2.2] := let ⟨o, ho, r⟩ := hpt; ⟨o, keep1 _ _ hti ho, r⟩
    show wpAny _ A.in1 (holding [Value.ref t.1] _ >>= _) _ _ _
    refine wpAny_bind (wpAny_holding ?_)
    refine wpAny_bind (wpAny_tryCatch (pairItems_tup hpt1 ?_))
    show wpAny _ A.in1 (holding _ (dictSet d (.str t.2.1 u) t.2.2)) _ _ _
    refine wpAny_holding (wpAny_dictSet_pairs (hsz := by rw [sizeLine_eq]; omega) (k := .inr t.2.1) (kV_is (k := .inr t.2.1) ⟨u, rfl⟩) (hd.sameBut hs1 hdi) fun h2 hd2 hs2 => ?_)
    have keep2 : ∀ b o, b ≠ it → b ≠ d → s.heap.get? b = some o → h2.get? b = some o := fun b o hb hb2 e => (hs2.2 b hb2).trans (keep1 b o hb e)
    refine wpAny_pure ⟨plainId_quiet plain_du_loop _, ?_⟩
    have hgo := ih (i + 1) 0 { s with heap := h2, toks := s.toks + 1 } (stored kvs (.inr t.2.1) t.2.2) (by omega) hlt
      (let ⟨o, ho, r⟩ := hit1; ⟨o, (hs2.2 it (Ne.symm hdi)).trans ho, r⟩) (let ⟨o, ho, r⟩ := hl; ⟨o, keep2 _ _ (Ne.symm hil) (Ne.symm hdl) ho, r⟩) hd2
      (by
        unfold stored
        split
        · rw [List.length_map]; omega
        · rw [List.length_append]; exact Nat.succ_le_succ hkl)
      (fun t' ht' => by
        obtain ⟨a1, a2, ⟨u', b⟩⟩ := hp t' ht'
        exact ⟨a1, a2, ⟨u', let ⟨o, ho, r⟩ := b; ⟨o, keep2 _ _ a1 a2 ho, r⟩⟩⟩)
      (fun h' tk' hk' hd' => hR h' tk' (fun b o hb hb2 e => hk' b o hb hb2 (keep2 b o hb hb2 e)) (by
        rw [List.drop_eq_getElem_cons hlt, List.foldl_cons]
        have e : ts[i] = t := by
          have := List.getElem?_eq_getElem hlt
          rw [ht] at this
          exact (Option.some.inj this).symm
        rw [e]; exact hd'))
    exact hgo
theorem fold_stored : ∀ (ts : List (Addr × Str × Value)) (kvs : List (Key × Value)), (ts.map fun t => (Sum.inr t.2.1 : Key)).Nodup → (∀ t ∈ ts, ∀ kv ∈ kvs, kv.1 ≠ .inr t.2.1) →
    ts.foldl (fun kv t => stored kv (.inr t.2.1) t.2.2) kvs = kvs ++ ts.map fun t => (.inr t.2.1, t.2.2)
  | [], kvs, _, _ => by simp
  | t :: ts, kvs, hn, hk => by
    rw [List.map_cons, List.nodup_cons] at hn
    have h1 : stored kvs (.inr t.2.1) t.2.2 = kvs ++ [(.inr t.2.1, t.2.2)] := by
      unfold stored
      rw [if_neg]
      intro z
      obtain ⟨kv, hkv, e⟩ := List.any_eq_true.mp z
      exact hk t List.mem_cons_self kv hkv (by simpa using e)
    rw [List.foldl_cons, h1, fold_stored ts _ hn.2 (fun t' ht' kv hkv => ?_), List.map_cons, List.append_assoc]
    · rfl
    · rcases List.mem_append.mp hkv with z | z
      · exact hk t' (List.mem_cons_of_mem _ ht') kv z
      · have : kv = (.inr t.2.1, t.2.2) := by simpa using z
        rw [this]
        intro w
        exact hn.1 (List.mem_map.mpr ⟨t', ht', w.symm⟩)
end L2
namespace RB
open PySem L2 PySem.Spec PyProof.Rows
noncomputable def pdK (ps : List Rdp) : List (Key × V) := ps.map fun q => (.inr q.1, .int q.2)
theorem pairs_of {X : Cx} {pins : List (Addr × Obj)} {σ : L2.St} {H : Hp} {s : Shared} (I : Inv X pins σ H s) : ∀ {as : List Addr} {ps : List Rdp}, IsRds H as ps →
    ∃ ts : List (Addr × Str × Value), ts.map (·.1) = as ∧ ts.map (·.2.1) = ps.map (·.1) ∧ (∀ t ∈ ts, PairAt s.heap t.1 t.2.1 t.2.2) ∧ KV (pdK ps) (ts.map fun t => (.inr t.2.1, t.2.2))
  | _, _, .nil => ⟨[], rfl, rfl, by simp, .nil⟩
  | _, _, .cons (a := a) (p := p) h g => by
    obtain ⟨ts, e1, e2, e3, e4⟩ := pairs_of I g
    obtain ⟨its, r, ht, _⟩ := I.tuple (SqT.of h)
    cases r with
    | cons r1 r2 =>
      cases r2 with
      | cons r2 r3 =>
        cases r3
        obtain ⟨u, rfl⟩ := r1
        rename_i v2
        refine ⟨(a, p.1, v2) :: ts, by rw [List.map_cons, e1], by rw [List.map_cons, List.map_cons, e2], fun t ht' => ?_, .cons ⟨rfl, r2⟩ e4⟩
        rcases List.mem_cons.mp ht' with z | z
        · rw [z]; exact ⟨u, ht⟩
        · exact e3 t z
theorem call_dictP {X : Cx} (hc : X.calm = true) : CallR X (.type "dict") (fun xs H Q => ∃ (l : Addr) (as : List Addr) (ps : List Rdp), xs = [V.ref l] ∧ SqL X.K H l (as.map V.ref) ∧ IsRds H as ps ∧ (ps.map (·.1)).Nodup ∧ ps.length ≤ 1000 ∧ ∀ p, H p = none → Q (.ref p) (upd H p (.dK (pdK ps)))) := by
  intro pins s σ H xs us Q I r h
  obtain ⟨l, as, ps, rfl, hl, hR, hnd, hlen, q⟩ := h
  obtain ⟨u, rfl, ru⟩ := Vals.one r
  cases (show u = Value.ref l from ru)
  obtain ⟨its, rv, pl, hz⟩ := I.list hl
  obtain ⟨ts, e1, e2, e3, e4⟩ := pairs_of I hR
  have hits : its = ts.map fun t => Value.ref t.1 := by
    rw [← e1] at rv
    clear e2 e3 e4 e1 hnd hlen q pl hz hl hR
    revert its
    induction ts with
    | nil => intro its rv; cases rv; rfl
    | cons t ts ih =>
      intro its rv
      cases rv with
      | cons r1 r2 =>
        cases r1
        rw [List.map_cons, ih _ r2]
  have htl : ts.length = ps.length := by
    have := congrArg List.length e2
    simpa using this
  have hh := I.ok.hd hc
  obtain ⟨o, n, ho, hcls, hdct, hdat⟩ := pl
  refine callType_codes (Q₁ := fun obj s₁ => obj = .ref s.heap.objs.size ∧ s₁ = { s with heap := s.heap.push { cls := .type "dict", data := .dict #[] } }) PySem.F.kt_called_dict (PySem.F.kt_typeCall_dict_1 _) PySem.F.entry_dict_init (kt_code_dict_new _ ⟨rfl, rfl⟩) ?_
  rintro obj s₁ ⟨rfl, rfl⟩
  have hnew : (s.heap.push { cls := .type "dict", data := .dict #[] }).DictOf (mixKind X.prog X.w) s.heap.objs.size [] := Heap.DictOf.new s.heap
  refine ⟨hnew.typeIs, PySem.F.args_dict_init_2 _ _, ?_⟩
  unfold Builtin.«dict.__init__»
  refine wpAny_bind ?_
  unfold Builtin.Dict.selfAndRest
  refine wpAny_bind (wpAny_notOrdered_dict hnew.typeIs ?_)
  show wpAny _ _ (pure (s.heap.objs.size, [Value.ref l])) _ _ _
  refine wpAny_pure ?_
  show wpAny _ _ (Builtin.Dict.updateFrom "dict.__init__" s.heap.objs.size (.ref l) [] .none) _ _ _
  unfold Builtin.Dict.updateFrom
  have ho1 : (s.heap.push { cls := .type "dict", data := .dict #[] }).get? l = some o := Heap.get?_push_of_some _ ho
  refine wpAny_bind (wpAny_typeOf (T := "list") ⟨o, ho1, hcls⟩ ?_)
  rw [if_pos (by decide)]
  refine wpAny_bind (getAttrQ_miss_list ho1 hcls hdat hdct miss_list_keys (by decide +kernel) hh (fun h1 tk1 k1 => ?_) (by decide +kernel))
  rw [if_pos (by rfl)]
  refine wpAny_bind (wpAny_rule ?_)
  have hl1 : h1.IsList l (ts.map fun t => Value.ref t.1).toArray := ⟨o, k1 _ _ ho1, hcls, n, by rw [hdat, hits]⟩
  refine wpAny_bind (wpAny_pyIter_list hl1 ?_)
  refine wpAny_pure ⟨plainId_quiet plain_du_loop _, ?_⟩
  have hd1 := hnew.keep k1
  have hd1s : s.heap.objs.size < h1.objs.size := by
    obtain ⟨_, _, _, hg, _⟩ := hd1
    exact Heap.lt_size hg
  have hls : l < s.heap.objs.size := Heap.lt_size ho
  have hts : ∀ t ∈ ts, t.1 < s.heap.objs.size := fun t ht => by
    obtain ⟨⟨_, _, hg, _⟩⟩ := e3 t ht
    exact Heap.lt_size hg
  have hnk : (ts.map fun t => (Sum.inr t.2.1 : Key)).Nodup := by
    have h2 : (ts.map fun t => (Sum.inr t.2.1 : Key)) = (ts.map (·.2.1)).map Sum.inr := by rw [List.map_map]; rfl
    rw [h2, e2]
    rw [List.Nodup, List.pairwise_map]
    exact hnd.imp fun hne z => hne (Sum.inr.inj z)
  refine du_loop (A := X.A.in1) (ts := ts) (l := l) hh (Nat.ne_of_lt hd1s) (Nat.ne_of_gt hls) (Nat.ne_of_gt (Nat.lt_trans hls hd1s)) (by omega) ts.length 0 0 _ [] rfl (Nat.zero_le _) ⟨_, Heap.get?_push_size _ rfl, rfl, rfl⟩ (let ⟨o, ho, r⟩ := hl1; ⟨o, Heap.get?_push_of_some _ ho, r⟩) (hd1.push _) (Nat.le_refl _) (fun t ht => ?_) (fun h' tk' hk' hd' => ⟨rfl, ?_⟩)
  · have h1 := hts t ht
    obtain ⟨u, o, hg, r⟩ := (e3 t ht).h
    exact ⟨Nat.ne_of_lt (Nat.lt_trans h1 hd1s), Nat.ne_of_lt h1, u, o, Heap.get?_push_of_some _ (k1 _ _ (Heap.get?_push_of_some _ hg)), r⟩
  · have keep : ∀ b u, s.heap.get? b = some u → h'.get? b = some u := fun b u e => by
      have hb := Heap.lt_size e
      exact hk' b u (Nat.ne_of_lt (Nat.lt_trans hb hd1s)) (Nat.ne_of_lt hb) (Heap.get?_push_of_some _ (k1 _ _ (Heap.get?_push_of_some _ e)))
    rw [List.drop_zero, fold_stored ts [] hnk (by simp), List.nil_append] at hd'
    have hkl : (pdK ps).length ≤ sizeLine := by rw [show (pdK ps).length = ps.length from List.length_map _, sizeLine_eq]; omega
    refine ⟨.ref s.heap.objs.size, _, I.laid (t' := tk') keep (Nat.le_refl _) (show ObjOk X.prog X.w _ h' _ (.dK (pdK ps)) from ⟨hkl, ?_, _, e4, hd'⟩), rfl, q _ (I.hok.fresh (Nat.le_refl _))⟩
    exact beq_eq_false_iff_ne.mpr (Nat.ne_of_gt I.big)
theorem qc_dictP {X : Cx} (hc : X.calm = true) : QCall X (.type "dict") (fun xs H Q => ∃ (l : Addr) (as : List Addr) (ps : List Rdp), xs = [V.ref l] ∧ SqL X.K H l (as.map V.ref) ∧ IsRds H as ps ∧ (ps.map (·.1)).Nodup ∧ ps.length ≤ 1000 ∧ ∀ p, H p = none → Q (.ref p) (upd H p (.dK (pdK ps)))) := ⟨call_dictP hc⟩
end RB
--END

set_option maxRecDepth 100000
--BEGIN
namespace RB
open PySem L2 PySem.Spec PyProof.Rows
theorem sum_all {P : R → Prop} (hb : ∀ a b, P a → P b → P (.bin .plus a b)) : ∀ (k : Nat) (rs : List R), 1 ≤ rs.length → rs.length ≤ 2 ^ k → (∀ r ∈ rs, P r) → P (sumF k rs)
  | 0, rs, h1, h2, h => by
    match rs, h1, h2 with
    | [r], _, _ => exact h r (by simp)
  | k + 1, rs, h1, h2, h => by
    unfold sumF
    by_cases hl : rs.length = 1
    · rw [if_pos hl]
      match rs, hl with
      | [r], _ => exact h r (by simp)
    · rw [if_neg hl]
      have e2 : 2 ^ (k + 1) = 2 * 2 ^ k := by rw [Nat.pow_succ]; omega
      rw [e2] at h2
      exact hb _ _ (sum_all hb k (rs.take (rs.length / 2)) (by rw [List.length_take]; omega) (by rw [List.length_take]; omega) fun r hr => h r (List.mem_of_mem_take hr))
        (sum_all hb k (rs.drop (rs.length / 2)) (by rw [List.length_drop]; omega) (by rw [List.length_drop]; omega) fun r hr => h r (List.mem_of_mem_drop hr))
theorem fold_pl {ns : List Str} : ∀ (ps : List Rdp) (r : R), (∀ p ∈ ps, p.1 ∈ ns) → r.Pl ns → (ps.foldl (fun r q => .cho r [q.1]) r).Pl ns
  | [], r, _, h => h
  | p :: ps, r, hp, h => fold_pl ps (.cho r [p.1]) (fun q hq => hp q (List.mem_cons_of_mem _ hq)) ⟨h, Nat.le_refl _, fun x hx => by
      have : x = p.1 := by simpa using hx
      rw [this]; exact hp p List.mem_cons_self⟩
theorem row_pl {ns : List Str} {row : List Rdp} (hp : ∀ p ∈ row, p.1 ∈ ns) : (rowR row).Pl ns := by
  cases row with
  | nil => trivial
  | cons p ps => exact fold_pl ps (.rd p.1) (fun q hq => hp q (List.mem_cons_of_mem _ hq)) (hp p List.mem_cons_self)
theorem twin_pl {ps : List Rdp} {k : Nat} {v : Int} (h30 : ps.length ≤ 30) (hk : k < ps.length) : (twinR ps k v).Pl (ps.map (·.1)) := by
  have hl := rowsK_len h30 hk
  unfold twinR
  refine sum_all (P := fun r => R.Pl (List.map (fun p : Rdp => p.1) ps) r) (fun a b ha hb => ⟨rfl, ha, hb⟩) 4 ((rowsK ps k).map rowR ++ [.num (restK ps k v)]) (by simp) (by simp; omega) fun r hr => ?_
  rcases List.mem_append.mp hr with z | z
  · obtain ⟨row, hrow, rfl⟩ := List.mem_map.mp z
    exact row_pl fun p hp => List.mem_map.mpr ⟨p, by rw [← rowsK_flat ps k]; exact List.mem_flatten.mpr ⟨row, hrow, hp⟩, rfl⟩
  · have : r = .num (restK ps k v) := by simpa using z
    rw [this]; exact trivial
theorem R.Pl.plus {ns : List Str} : ∀ {r : R}, r.Pl ns → r.Plus
  | .num _, _ => trivial
  | .rd _, _ => trivial
  | .bin _ _ _, h => ⟨h.1, R.Pl.plus h.2.1, R.Pl.plus h.2.2⟩
  | .pick _ _ _, h => h.elim
  | .cho a _, h => show a.Plus from R.Pl.plus h.1
theorem rds_dat {K : PySem.W.Frag} {H : Hp} : ∀ {as : List Addr} {ps : List Rdp}, IsRds H as ps → DatVs K H (as.map V.ref) (ps.map rdT)
  | _, _, .nil => .nil
  | _, _, .cons h g => .cons (.tup (SqT.of h) (.cons (.str _) (.cons (.int _) .nil))) (rds_dat g)
theorem lay_rds : ∀ (ps : List Rdp), (∀ p ∈ ps, GName p.1) → PyData.canLayAll0 (ps.map rdT) = true
  | [], _ => rfl
  | p :: ps, h => by
    show ((PyData.strOk p.1 && (true && true)) && PyData.canLayAll0 (ps.map rdT)) = true
    rw [strOk_name (h p List.mem_cons_self), lay_rds ps fun q hq => h q (List.mem_cons_of_mem _ hq)]; rfl
theorem dep_rds : ∀ (ps : List Rdp), PyData.depthAll (ps.map rdT) ≤ 4
  | [] => by simp [PyData.depthAll]
  | p :: ps => by
    have := dep_rds ps
    have h1 : (rdT p).depth ≤ 4 := by simp only [rdT, PyData.depth, PyData.depthAll]; omega
    simp only [List.map_cons, PyData.depthAll]; omega
noncomputable def wkD (wo : Int) (ps : List Rdp) : PyData := .list [.int wo, .list (ps.map rdT)]
theorem wk_shaped {wo : Int} {ps : List Rdp} (h : ∀ p ∈ ps, GName p.1) : SeqAt.shaped (wkD wo ps) = true := by
  have h5 : (wkD wo ps).canLay0 = true := by
    show (true && (PyData.canLayAll0 (ps.map rdT) && true)) = true
    rw [lay_rds ps h]; rfl
  have h4 : (wkD wo ps).depth ≤ 64 := by
    have := dep_rds ps
    simp only [wkD, PyData.depth, PyData.depthAll]; omega
  show (_ && decide _) = true
  rw [h5, decide_eq_true h4]; rfl
noncomputable def rcD (r : R) (wo : Int) (ps : List Rdp) : PyData := .tuple [r.dat, .list (ps.map rdT), .int wo]
theorem rc_shaped {r : R} {wo : Int} {ps : List Rdp} (hg : r.GoodN) (hd : r.depth ≤ 8) (h : ∀ p ∈ ps, GName p.1) : SeqAt.shaped (rcD r wo ps) = true := by
  have h5 : (rcD r wo ps).canLay0 = true := by
    show (r.dat.canLay0 && (PyData.canLayAll0 (ps.map rdT) && (true && true))) = true
    rw [lay_rds ps h, R.layN r hg]; rfl
  have h4 : (rcD r wo ps).depth ≤ 64 := by
    have := dep_rds ps
    have := r.dat_depth
    simp only [rcD, PyData.depth, PyData.depthAll]; omega
  show (_ && decide _) = true
  rw [h5, decide_eq_true h4]; rfl
theorem r_shaped {r : R} (hg : r.GoodN) (hd : r.depth ≤ 8) : SeqAt.shaped r.dat = true := by
  have h4 : r.dat.depth ≤ 64 := by have := r.dat_depth; omega
  show (_ && decide _) = true
  rw [R.layN r hg, decide_eq_true h4]; rfl
theorem pd_val : ∀ {ps : List Rdp}, (ps.map (·.1)).Nodup → ∀ p ∈ ps, valV (pdK ps) (.inr p.1) = some (.int p.2)
  | q :: ps, hn, p, hp => by
    rw [List.map_cons, List.nodup_cons] at hn
    rcases List.mem_cons.mp hp with z | z
    · subst z; exact valV_pos rfl
    · have hne : q.1 ≠ p.1 := fun w => hn.1 (List.mem_map.mpr ⟨p, z, w.symm⟩)
      show valV ((.inr q.1, .int q.2) :: pdK ps) (.inr p.1) = _
      rw [valV_neg (fun w => hne (Sum.inr.inj w))]
      exact pd_val hn.2 p z
/-- the numbers that a dict holds -/
noncomputable def nmD (kv : List (Key × V)) (x : Str) : Int := match valV kv (.inr x) with
  | some (.int n) => n
  | _ => 0
theorem nmD_val {kv : List (Key × V)} {x : Str} {n : Int} (h : valV kv (.inr x) = some (.int n)) : nmD kv x = n := by
  unfold nmD; rw [h]
noncomputable def sp37Good : Sp := fun vs H Q _ => ∃ (t b l p : Addr) (k : Nat) (r : R) (as : List Addr) (ps : List Rdp) (wo : Int) (c : Nat), vs = [.ref t, .int (k : Int), .ref p] ∧ H t = some (.tup [.ref b, .ref l, .int wo]) ∧ IsR H b r ∧ r.GoodN ∧ r.depth ≤ 8 ∧ H l = some (.lst (as.map V.ref)) ∧ IsRds H as ps ∧ k < ps.length ∧ ps.length ≤ 29 ∧ (ps.map (·.1)).Nodup ∧ (∀ p ∈ ps, GName p.1) ∧ PoolAt H p c ∧ c ≤ 50000 ∧
  ∀ H', But [p] H H' → PoolAt H' p (c + 4) → Q (.bl true) H'
end RB
--END

set_option maxHeartbeats 4000000
namespace K37
open PySem L2 PySem.Spec PyProof.Rows RB
local macro_rules | `(tactic| walk_at "ne") => `(tactic| first | assumption | exact Ne.symm (by assumption) | exact ne_of_none (by assumption) (by assumption) | exact Ne.symm (ne_of_none (by assumption) (by assumption)))
local macro_rules | `(tactic| walk_at "heap") => `(tactic| first | assumption | exact upd_same | (refine (upd_ne (by walk_at "ne")).trans ?_; walk_at "heap"))
local macro_rules | `(tactic| walk_at "side") => `(tactic| first | with_reducible rfl | rfl | assumption | exact SqL.of (by walk_at "heap") | exact SqT.of (by walk_at "heap") | exact Or.inl (SqL.of (by walk_at "heap")) | exact Or.inr (SqT.of (by walk_at "heap")) | exact TyOf.str _ | exact TyOf.int _ | exact TyOf.bl _ | exact TyOf.tup (by walk_at "heap") | exact Or.inl ⟨rfl, _, SqL.of (by walk_at "heap")⟩ | exact Or.inl ⟨_, SqL.of (by walk_at "heap"), rfl⟩ | exact kit_same _ | exact Or.inl (by assumption) | exact Or.inr (by assumption) | walk_at "heap" | omega | (show _ ≤ sizeLine; decide) | (show _ < sizeLine; decide) | exact Or.inr ⟨by decide, by decide⟩ | exact Or.inl ⟨by decide, by decide⟩ | exact Or.inl ⟨by omega, by omega⟩ | exact Or.inr ⟨by omega, by omega⟩ | exact ⟨by omega, by decide⟩ | exact ⟨by omega, by assumption⟩ | exact ⟨by decide, by decide, by decide⟩ | exact ⟨_, SqT.of (by walk_at "heap")⟩ | exact ⟨_, SqL.of (by walk_at "heap")⟩ | (intro z; exact absurd (show (1 : Nat) = 0 from z.1) (by decide)) | (show Nat.log2 _ < 9000; decide +kernel) | ((rw [sizeLine_eq]); (try simp only [len_app]); omega) | exact Nat.le_of_lt (small1000 (by (simp only [List.length_cons, List.length_nil]); omega)) | decide +kernel)
local macro_rules | `(tactic| walk_at "v") => `(tactic| first
  | ((apply Exists.intro); (repeat apply Exists.intro); (refine And.intro ?_ ?_); walk_at "side")
  | ((refine And.intro ?_ ?_); walk_at "side"))
local macro_rules | `(tactic| walk_at "vs") => `(tactic| repeat walk_at "v")

noncomputable def top (i : Nat) : Stmt := PySem.Challenge.pw_madeagain_k37_twins.main.body.getD i (.Pass ⟨0, 0, 0, 0⟩)
noncomputable def mtop (i j : Nat) : Stmt := match top i with
  | .ClassDef _ _ _ b _ _ _ _ _ _ _ => b.getD j (.Pass ⟨0, 0, 0, 0⟩)
  | _ => .Pass ⟨0, 0, 0, 0⟩

section
variable {P : Program} {w : World} {K : PySem.W.Frag} {mg : Str → Option Value} {base : Heap}
noncomputable abbrev s_is_whole_number : Stmt := top 10
theorem sc_is_whole_number : FnScope ["thing"] ["thing"] (defScope s_is_whole_number) := ⟨rfl, rfl, rfl, by decide +kernel, rfl, by decide +kernel, by decide +kernel⟩
theorem gl_is_whole_number_isinstance : (defScope s_is_whole_number).names.lookup ("isinstance" : Str) = some NameKind.globalImplicit := by decide +kernel
theorem gl_is_whole_number_bool : (defScope s_is_whole_number).names.lookup ("bool" : Str) = some NameKind.globalImplicit := by decide +kernel
theorem nn_is_whole_number_bool : ("bool" : Str) ≠ "__name__" := by decide +kernel
theorem db_is_whole_number_bool : (("bool" : Str) == ("__debug__" : Str)) = false := by decide +kernel
theorem vo_is_whole_number_thing : VarOk (defScope s_is_whole_number) "thing" := by decide +kernel
theorem nn_is_whole_number_isinstance : ("isinstance" : Str) ≠ "__name__" := by decide +kernel
theorem db_is_whole_number_isinstance : (("isinstance" : Str) == ("__debug__" : Str)) = false := by decide +kernel
theorem gl_is_whole_number_int : (defScope s_is_whole_number).names.lookup ("int" : Str) = some NameKind.globalImplicit := by decide +kernel
theorem nn_is_whole_number_int : ("int" : Str) ≠ "__name__" := by decide +kernel
theorem db_is_whole_number_int : (("int" : Str) == ("__debug__" : Str)) = false := by decide +kernel
theorem ok_is_whole_number {f : Addr} {fd : FuncData} (T_is_whole_number : FnT K mg "is_whole_number" s_is_whole_number ["thing"] f fd) (T : Blt mg) (kd : Kinds K) : FnOk P w K mg base CX0 1 f fd ["thing"] (spWhole K) := by
  refine T_is_whole_number.F.okQ sc_is_whole_number (fun vs H Q E h => ?_) (fun cdv A outer s H vs Q E hr h => ?_)
  · obtain ⟨v, t, rfl, _⟩ := h
    rfl
  obtain ⟨v, t, rfl, ht, q⟩ := h
  refine ⟨_, (qss_one (qs_ret (qe_and (qe_callB qc_isi gl_is_whole_number_isinstance T.b_isinstance bt_isinstance (qa_N (qe_var 0 vo_is_whole_number_thing) (qa_N (qe_bltn (v := .ty "int") gl_is_whole_number_int T.b_int bt_int rfl nn_is_whole_number_int db_is_whole_number_int) qa_nil)) nn_is_whole_number_isinstance db_is_whole_number_isinstance) (qe_one (qe_not (qe_callB qc_isi gl_is_whole_number_isinstance T.b_isinstance bt_isinstance (qa_N (qe_var 0 vo_is_whole_number_thing) (qa_N (qe_bltn (v := .ty "bool") gl_is_whole_number_bool T.b_bool bt_bool rfl nn_is_whole_number_bool db_is_whole_number_bool) qa_nil)) nn_is_whole_number_isinstance db_is_whole_number_isinstance)))))), ?_⟩
  have h1 := ht.ty
  have h2 := ht.isi kd (c := "int") (by simp [tys])
  have h3 := ht.isi kd (c := "bool") (by simp [tys])
  walk_at "vs"
  cases ht with
  | bl b => walk_at "vs"; exact q
  | int i => walk_at "vs"; exact q
  | non => exact q
  | str x => exact q
  | tup e h => exact q
  | oth h hT k => rcases hT with rfl | rfl <;> exact q
noncomputable abbrev s_is_name : Stmt := top 11
theorem sc_is_name : FnScope ["thing"] ["thing"] (defScope s_is_name) := ⟨rfl, rfl, rfl, by decide +kernel, rfl, by decide +kernel, by decide +kernel⟩
theorem gl_is_name_len : (defScope s_is_name).names.lookup ("len" : Str) = some NameKind.globalImplicit := by decide +kernel
theorem vo_is_name_thing : VarOk (defScope s_is_name) "thing" := by decide +kernel
theorem nn_is_name_len : ("len" : Str) ≠ "__name__" := by decide +kernel
theorem db_is_name_len : (("len" : Str) == ("__debug__" : Str)) = false := by decide +kernel
theorem gl_is_name_MOST_LETTERS : (defScope s_is_name).names.lookup ("MOST_LETTERS" : Str) = some NameKind.globalImplicit := by decide +kernel
theorem db_is_name_MOST_LETTERS : (("MOST_LETTERS" : Str) == ("__debug__" : Str)) = false := by decide +kernel
theorem gl_is_name_isinstance : (defScope s_is_name).names.lookup ("isinstance" : Str) = some NameKind.globalImplicit := by decide +kernel
theorem gl_is_name_str : (defScope s_is_name).names.lookup ("str" : Str) = some NameKind.globalImplicit := by decide +kernel
theorem nn_is_name_str : ("str" : Str) ≠ "__name__" := by decide +kernel
theorem db_is_name_str : (("str" : Str) == ("__debug__" : Str)) = false := by decide +kernel
theorem nn_is_name_isinstance : ("isinstance" : Str) ≠ "__name__" := by decide +kernel
theorem db_is_name_isinstance : (("isinstance" : Str) == ("__debug__" : Str)) = false := by decide +kernel
theorem gl_is_name_all : (defScope s_is_name).names.lookup ("all" : Str) = some NameKind.globalImplicit := by decide +kernel
theorem db_is_name_LETTERS : (("LETTERS" : Str) == ("__debug__" : Str)) = false := by decide +kernel
theorem nn_is_name_all : ("all" : Str) ≠ "__name__" := by decide +kernel
theorem db_is_name_all : (("all" : Str) == ("__debug__" : Str)) = false := by decide +kernel
theorem ok_is_name {f : Addr} {fd : FuncData} {tL tM : Tok} (T_is_name : FnT K mg "is_name" s_is_name ["thing"] f fd) (T : Blt mg) (kd : Kinds K) (mLT : mg "LETTERS" = some (.str "abcdefghijklmnopqrstuvwxyz" tL)) (mML : mg "MOST_LETTERS" = some (.int 8 tM)) :
    FnOk P w K mg base CX0 1 f fd ["thing"] (spIsName K) := by
  refine T_is_name.F.okQ sc_is_name (fun vs H Q E h => ?_) (fun cdv A outer s H vs Q E hr h => ?_)
  · obtain ⟨v, t, rfl, _⟩ := h
    rfl
  obtain ⟨v, t, rfl, ht, hsh, q⟩ := h
  refine ⟨_, (qss_cons (qs_if (qt_w (qw_or (qt_not (qt_val (qe_callB qc_isi gl_is_name_isinstance T.b_isinstance bt_isinstance (qa_N (qe_var 0 vo_is_name_thing) (qa_N (qe_bltn (v := .ty "str") gl_is_name_str T.b_str bt_str rfl nn_is_name_str db_is_name_str) qa_nil)) nn_is_name_isinstance db_is_name_isinstance))) (qw_or1 (qt_not (qt_chain qop_le qop_le qe_int (qe_callB qc_len_str gl_is_name_len T.b_len bt_len (qa_N (qe_var 0 vo_is_name_thing) qa_nil) nn_is_name_len db_is_name_len) (qe_glob (v := .int 8) gl_is_name_MOST_LETTERS mML ⟨_, rfl⟩ db_is_name_MOST_LETTERS)))))) (qss_one (qs_ret qe_bl)) qss_nil)
    (qss_one (qs_ret (qe_callB (qc_allB rfl) gl_is_name_all T.b_all bt_all (qa_M (qe_comp rfl (n := 1) (fr := []) (N := ["sign"]) (cs_mk (scX := defScope s_is_name) (NX := ["thing"]) rfl rfl (by decide +kernel)) (qi_str (qe_var 0 vo_is_name_thing)) (fun _ _ _ _ _ => (qgx (i := 0) (show List.Nodup (α := Str) ["sign"] by decide) (locC (by decide +kernel)))) (fun _ _ _ _ _ => qi_nil) (fun _ _ _ _ _ => (qe_cmp qop_in_str (qe_var 0 (VarC.ok (by decide +kernel))) (qe_glob (v := .str "abcdefghijklmnopqrstuvwxyz") (glC (by decide +kernel)) mLT ⟨_, rfl⟩ db_is_name_LETTERS) rfl))) qa_nil) nn_is_name_all db_is_name_all)))), ?_⟩
  have h1 := ht.ty
  have h2 := ht.isi kd (c := "str") (by simp [tys])
  walk_at "vs"
  cases ht with
  | non => exact q _ (Same.refl _)
  | bl b => exact q _ (Same.refl _)
  | int i => exact q _ (Same.refl _)
  | tup e h => exact q _ (Same.refl _)
  | oth h hT k => rcases hT with rfl | rfl <;> exact q _ (Same.refl _)
  | str x =>
    have hl := hsh.len
    walk_at "vs"
    refine ite2 (fun c1 => ?_) (fun c1 => ?_)
    · have c1' : 1 ≤ (x.length : Int) := by simpa using c1
      walk_at "vs"
      refine ite2 (fun c2 => ?_) (fun c2 => ?_)
      · have c2' : ¬ (x.length : Int) ≤ 8 := by simpa using c2
        walk_at "vs"
        have e : nameT (.str x) = false := decide_eq_false fun g => c2' (by have := g.2.1; omega)
        rw [e] at q
        exact q _ (Same.refl _)
      · have c2' : (x.length : Int) ≤ 8 := by simpa using c2
        walk_at "vs"
        intro D hD
        refine comp_str (fun i σ' H' => (∃ z, σ' = [z]) ∧ Same H H' ∧ H' D = some (.lst (((x.cps.toList.take i).map fun c => decide (isLow c)).map V.bl))) ?_ ?_ ?_
        · exact ⟨⟨none, rfl⟩, same_new _ hD, upd_same⟩
        · intro i c σ' H' hi hP
          obtain ⟨⟨z, rfl⟩, hs, hd⟩ := hP
          have hz : (((x.cps.toList.take i).map fun c => decide (isLow c)).map V.bl).length < sizeLine := by
            rw [List.length_map, List.length_map, List.length_take]
            have : x.cps.toList.length = x.length := by simp [Str.length]
            exact small1000 (by omega)
          walk_at "vs"
          refine ⟨⟨_, rfl⟩, same_updN _ hD hs, ?_⟩
          have hi' : x.cps.toList[i]? = some c := by simpa using hi
          rw [upd_same, low_iff, List.take_succ, hi', List.map_append, List.map_append]
          rfl
        · intro σ' H' hP
          obtain ⟨_, hs, hd⟩ := hP
          walk_at "vs"
          have e : nameT (.str x) = ((List.map (fun c => decide (isLow c)) (List.take x.cps.size x.cps.toList)).all id) := by
            rw [Bool.eq_iff_iff, show nameT (.str x) = decide (GName x) from rfl, decide_eq_true_eq, List.take_of_length_le (by simp), List.all_map, List.all_eq_true]
            constructor
            · intro g c hc
              exact decide_eq_true (g.2.2 c hc)
            · intro g
              exact ⟨by omega, by omega, fun c hc => of_decide_eq_true (g c hc)⟩
          rw [e] at q
          exact q _ hs
    · have c1' : ¬ 1 ≤ (x.length : Int) := by simpa using c1
      walk_at "vs"
      have e : nameT (.str x) = false := decide_eq_false fun g => c1' (by have := g.1; omega)
      rw [e] at q
      exact q _ (Same.refl _)
noncomputable abbrev s_is_choice : Stmt := top 12
theorem sc_is_choice : FnScope ["thing"] ["thing"] (defScope s_is_choice) := ⟨rfl, rfl, rfl, by decide +kernel, rfl, by decide +kernel, by decide +kernel⟩
theorem gl_is_choice_len : (defScope s_is_choice).names.lookup ("len" : Str) = some NameKind.globalImplicit := by decide +kernel
theorem vo_is_choice_thing : VarOk (defScope s_is_choice) "thing" := by decide +kernel
theorem nn_is_choice_len : ("len" : Str) ≠ "__name__" := by decide +kernel
theorem db_is_choice_len : (("len" : Str) == ("__debug__" : Str)) = false := by decide +kernel
theorem gl_is_choice_MOST_CHOICES : (defScope s_is_choice).names.lookup ("MOST_CHOICES" : Str) = some NameKind.globalImplicit := by decide +kernel
theorem db_is_choice_MOST_CHOICES : (("MOST_CHOICES" : Str) == ("__debug__" : Str)) = false := by decide +kernel
theorem gl_is_choice_isinstance : (defScope s_is_choice).names.lookup ("isinstance" : Str) = some NameKind.globalImplicit := by decide +kernel
theorem gl_is_choice_tuple : (defScope s_is_choice).names.lookup ("tuple" : Str) = some NameKind.globalImplicit := by decide +kernel
theorem nn_is_choice_tuple : ("tuple" : Str) ≠ "__name__" := by decide +kernel
theorem db_is_choice_tuple : (("tuple" : Str) == ("__debug__" : Str)) = false := by decide +kernel
theorem nn_is_choice_isinstance : ("isinstance" : Str) ≠ "__name__" := by decide +kernel
theorem db_is_choice_isinstance : (("isinstance" : Str) == ("__debug__" : Str)) = false := by decide +kernel
theorem gl_is_choice_all : (defScope s_is_choice).names.lookup ("all" : Str) = some NameKind.globalImplicit := by decide +kernel
theorem db_is_choice_is_name : (("is_name" : Str) == ("__debug__" : Str)) = false := by decide +kernel
theorem nn_is_choice_all : ("all" : Str) ≠ "__name__" := by decide +kernel
theorem db_is_choice_all : (("all" : Str) == ("__debug__" : Str)) = false := by decide +kernel
theorem ok_is_choice {f g : Addr} {fd gd : FuncData} {tM : Tok} (T_is_choice : FnT K mg "is_choice" s_is_choice ["thing"] f fd) (T_is_name : FnT K mg "is_name" s_is_name ["thing"] g gd)
    (G_is_name : FnOk P w K mg base CX0 1 g gd ["thing"] (spIsName K)) (T : Blt mg) (kd : Kinds K) (mMC : mg "MOST_CHOICES" = some (.int 9 tM)) :
    FnOk P w K mg base CX0 2 f fd ["thing"] (spChoice K) := by
  refine T_is_choice.F.okQ sc_is_choice (fun vs H Q E h => ?_) (fun cdv A outer s H vs Q E hr h => ?_)
  · obtain ⟨v, t, rfl, _⟩ := h
    rfl
  obtain ⟨v, t, rfl, ht, hsh, q⟩ := h
  refine ⟨_, (qss_cons (qs_if (qt_w (qw_or (qt_not (qt_val (qe_callB qc_isi gl_is_choice_isinstance T.b_isinstance bt_isinstance (qa_N (qe_var 0 vo_is_choice_thing) (qa_N (qe_bltn (v := .ty "tuple") gl_is_choice_tuple T.b_tuple bt_tuple rfl nn_is_choice_tuple db_is_choice_tuple) qa_nil)) nn_is_choice_isinstance db_is_choice_isinstance))) (qw_or1 (qt_not (qt_chain qop_le qop_le qe_int (qe_callB qc_len_seq gl_is_choice_len T.b_len bt_len (qa_N (qe_var 0 vo_is_choice_thing) qa_nil) nn_is_choice_len db_is_choice_len) (qe_glob (v := .int 9) gl_is_choice_MOST_CHOICES mMC ⟨_, rfl⟩ db_is_choice_MOST_CHOICES)))))) (qss_one (qs_ret qe_bl)) qss_nil)
    (qss_one (qs_ret (qe_callB (qc_allB rfl) gl_is_choice_all T.b_all bt_all (qa_M (qe_comp rfl (n := 1) (fr := []) (N := ["name"]) (cs_mk (scX := defScope s_is_choice) (NX := ["thing"]) rfl rfl (by decide +kernel)) (qi_tup (qe_var 0 vo_is_choice_thing)) (fun _ _ _ _ _ => (qgx (i := 0) (show List.Nodup (α := Str) ["name"] by decide) (locC (by decide +kernel)))) (fun _ _ _ _ _ => qi_nil) (fun _ _ _ _ _ => (qe_call (G_is_name.mono (by omega)) hr (glC (by decide +kernel)) T_is_name.m T_is_name.F.kp T_is_name.b .nil pass0 (qa_N (qe_var 0 (VarC.ok (by decide +kernel))) qa_nil) db_is_choice_is_name))) qa_nil) nn_is_choice_all db_is_choice_all)))), ?_⟩
  have h1 := ht.ty
  have h2 := ht.isi kd (c := "tuple") (by simp [tys])
  walk_at "vs"
  cases ht with
  | non => exact q _ (Same.refl _)
  | bl b => exact q _ (Same.refl _)
  | int i => exact q _ (Same.refl _)
  | str x => exact q _ (Same.refl _)
  | oth h hT k => rcases hT with rfl | rfl <;> exact q _ (Same.refl _)
  | @tup a ws ts e h =>
    have hl := h.length
    walk_at "vs"
    refine ite2 (fun c1 => ?_) (fun c1 => ?_)
    · have c1' : 1 ≤ (ws.length : Int) := by simpa using c1
      walk_at "vs"
      refine ite2 (fun c2 => ?_) (fun c2 => ?_)
      · have c2' : ¬ (ws.length : Int) ≤ 9 := by simpa using c2
        walk_at "vs"
        have ee : choiceT (.tup ts) = false := by
          show (decide (1 ≤ ts.length) && decide (ts.length ≤ 9) && ts.all nameT) = false
          rw [decide_eq_false (show ¬ ts.length ≤ 9 by omega)]; simp
        rw [ee] at q
        exact q _ (Same.refl _)
      · have c2' : (ws.length : Int) ≤ 9 := by simpa using c2
        walk_at "vs"
        intro D hD
        refine comp_tup (xs := ws) (fun i σ' H' => (∃ z, σ' = [z]) ∧ Same H H' ∧ H' D = some (.lst (((ts.take i).map nameT).map V.bl))) ?_ ?_ ?_ ?_
        · exact ⟨⟨none, rfl⟩, same_new _ hD, upd_same⟩
        · intro i σ' H' _ hP
          exact SqT.of (hP.2.1 _ _ e)
        · intro i x σ' H' hi hP
          obtain ⟨⟨z, rfl⟩, hs, hd⟩ := hP
          obtain ⟨t, ht1, ht2⟩ := h.get hi
          have ht3 := ht2.same hs
          have ht4 := hsh.of t (List.mem_of_getElem? ht1)
          have hz : (((ts.take i).map nameT).map V.bl).length < sizeLine := by
            rw [List.length_map, List.length_map, List.length_take]; exact small1000 (by omega)
          walk_at "vs"
          intro H5 s5
          have hd5 := s5 _ _ hd
          walk_at "vs"
          refine ⟨⟨_, rfl⟩, same_updN _ hD (hs.trans s5), ?_⟩
          rw [upd_same, List.take_succ, ht1, List.map_append, List.map_append]
          rfl
        · intro σ' H' hP
          obtain ⟨_, hs, hd⟩ := hP
          walk_at "vs"
          have ee : choiceT (.tup ts) = (((ts.take ws.length).map nameT).all id) := by
            show (decide (1 ≤ ts.length) && decide (ts.length ≤ 9) && ts.all nameT) = _
            rw [decide_eq_true (show 1 ≤ ts.length by omega), decide_eq_true (show ts.length ≤ 9 by omega), hl, List.take_length, List.all_map]
            rfl
          rw [ee] at q
          exact q _ hs
    · have c1' : ¬ 1 ≤ (ws.length : Int) := by simpa using c1
      walk_at "vs"
      have ee : choiceT (.tup ts) = false := by
        show (decide (1 ≤ ts.length) && decide (ts.length ≤ 9) && ts.all nameT) = false
        rw [decide_eq_false (show ¬ 1 ≤ ts.length by omega)]; simp
      rw [ee] at q
      exact q _ (Same.refl _)
end

section
variable {P : Program} {w : World} {K : PySem.W.Frag} {mg : Str → Option Value} {base : Heap}
noncomputable abbrev s_has_shape : Stmt := top 13
theorem sc_has_shape : FnScope ["thing", "kind"] ["thing"] (defScope s_has_shape) := ⟨rfl, rfl, rfl, by decide +kernel, rfl, by decide +kernel, by decide +kernel⟩
theorem gl_has_shape_isinstance : (defScope s_has_shape).names.lookup ("isinstance" : Str) = some NameKind.globalImplicit := by decide +kernel
theorem gl_has_shape_str : (defScope s_has_shape).names.lookup ("str" : Str) = some NameKind.globalImplicit := by decide +kernel
theorem nn_has_shape_str : ("str" : Str) ≠ "__name__" := by decide +kernel
theorem db_has_shape_str : (("str" : Str) == ("__debug__" : Str)) = false := by decide +kernel
theorem vo_has_shape_thing : VarOk (defScope s_has_shape) "thing" := by decide +kernel
theorem nn_has_shape_isinstance : ("isinstance" : Str) ≠ "__name__" := by decide +kernel
theorem db_has_shape_isinstance : (("isinstance" : Str) == ("__debug__" : Str)) = false := by decide +kernel
theorem gl_has_shape_len : (defScope s_has_shape).names.lookup ("len" : Str) = some NameKind.globalImplicit := by decide +kernel
theorem nn_has_shape_len : ("len" : Str) ≠ "__name__" := by decide +kernel
theorem db_has_shape_len : (("len" : Str) == ("__debug__" : Str)) = false := by decide +kernel
theorem gl_has_shape_tuple : (defScope s_has_shape).names.lookup ("tuple" : Str) = some NameKind.globalImplicit := by decide +kernel
theorem nn_has_shape_tuple : ("tuple" : Str) ≠ "__name__" := by decide +kernel
theorem db_has_shape_tuple : (("tuple" : Str) == ("__debug__" : Str)) = false := by decide +kernel
theorem lo_has_shape_kind : Loc (defScope s_has_shape) "kind" := by decide +kernel
theorem vo_has_shape_kind : VarOk (defScope s_has_shape) "kind" := by decide +kernel
theorem gl_has_shape_is_whole_number : (defScope s_has_shape).names.lookup ("is_whole_number" : Str) = some NameKind.globalImplicit := by decide +kernel
theorem db_has_shape_is_whole_number : (("is_whole_number" : Str) == ("__debug__" : Str)) = false := by decide +kernel
theorem gl_has_shape_is_name : (defScope s_has_shape).names.lookup ("is_name" : Str) = some NameKind.globalImplicit := by decide +kernel
theorem db_has_shape_is_name : (("is_name" : Str) == ("__debug__" : Str)) = false := by decide +kernel
theorem gl_has_shape_is_choice : (defScope s_has_shape).names.lookup ("is_choice" : Str) = some NameKind.globalImplicit := by decide +kernel
theorem db_has_shape_is_choice : (("is_choice" : Str) == ("__debug__" : Str)) = false := by decide +kernel
theorem gl_has_shape_WITHIN : (defScope s_has_shape).names.lookup ("WITHIN" : Str) = some NameKind.globalImplicit := by decide +kernel
theorem db_has_shape_WITHIN : (("WITHIN" : Str) == ("__debug__" : Str)) = false := by decide +kernel
theorem ok_has_shape {f g1 g2 g3 aW : Addr} {fd gd1 gd2 gd3 : FuncData} (T_has_shape : FnT K mg "has_shape" s_has_shape ["thing"] f fd)
    (T_is_whole_number : FnT K mg "is_whole_number" s_is_whole_number ["thing"] g1 gd1) (G_is_whole_number : FnOk P w K mg base CX0 1 g1 gd1 ["thing"] (spWhole K))
    (T_is_name : FnT K mg "is_name" s_is_name ["thing"] g2 gd2) (G_is_name : FnOk P w K mg base CX0 1 g2 gd2 ["thing"] (spIsName K))
    (T_is_choice : FnT K mg "is_choice" s_is_choice ["thing"] g3 gd3) (G_is_choice : FnOk P w K mg base CX0 2 g3 gd3 ["thing"] (spChoice K))
    (T : Blt mg) (kd : Kinds K) (mW : mg "WITHIN" = some (.ref aW)) (TW : Tab P w K aW withinD) : FnOk P w K mg base CX0 3 f fd ["thing"] (spShape K) := by
  refine T_has_shape.F.okQ sc_has_shape (fun vs H Q E h => ?_) (fun cdv A outer s H vs Q E hr h => ?_)
  · obtain ⟨v, t, rfl, _⟩ := h
    rfl
  obtain ⟨v, t, rfl, ht, hsh, q⟩ := h
  refine ⟨_, (qss_cons (qs_if (qt_w (qw_or (qt_not (qt_val (qe_callB qc_isi gl_has_shape_isinstance T.b_isinstance bt_isinstance (qa_N (qe_var 0 vo_has_shape_thing) (qa_N (qe_bltn (v := .ty "tuple") gl_has_shape_tuple T.b_tuple bt_tuple rfl nn_has_shape_tuple db_has_shape_tuple) qa_nil)) nn_has_shape_isinstance db_has_shape_isinstance))) (qw_or (qt_cmp qop_eq (qe_callB qc_len_seq gl_has_shape_len T.b_len bt_len (qa_N (qe_var 0 vo_has_shape_thing) qa_nil) nn_has_shape_len db_has_shape_len) qe_int (nomarkQ _)) (qw_or1 (qt_not (qt_val (qe_callB qc_isi gl_has_shape_isinstance T.b_isinstance bt_isinstance (qa_S (qe_ix qix_tup (qe_var 0 vo_has_shape_thing) qe_int) (qa_N (qe_bltn (v := .ty "str") gl_has_shape_str T.b_str bt_str rfl nn_has_shape_str db_has_shape_str) qa_nil)) nn_has_shape_isinstance db_has_shape_isinstance))))))) (qss_one (qs_ret qe_bl)) qss_nil)
    (qss_cons (qs_set (i := 1) sc_has_shape.nd rfl lo_has_shape_kind (qe_ix qix_tup (qe_var 0 vo_has_shape_thing) qe_int))
    (qss_cons (qs_if (qt_cmp qop_eq (qe_var 1 vo_has_shape_kind) qe_str (nomarkQ _)) (qss_one (qs_ret (qe_and (qe_cmp qop_eq (qe_callB qc_len_seq gl_has_shape_len T.b_len bt_len (qa_N (qe_var 0 vo_has_shape_thing) qa_nil) nn_has_shape_len db_has_shape_len) qe_int (nomarkQ _)) (qe_one (qe_call (G_is_whole_number.mono (by omega)) hr gl_has_shape_is_whole_number T_is_whole_number.m T_is_whole_number.F.kp T_is_whole_number.b .nil pass0 (qa_S (qe_ix qix_tup (qe_var 0 vo_has_shape_thing) qe_int) qa_nil) db_has_shape_is_whole_number))))) qss_nil)
    (qss_cons (qs_if (qt_cmp qop_eq (qe_var 1 vo_has_shape_kind) qe_str (nomarkQ _)) (qss_one (qs_ret (qe_and (qe_cmp qop_eq (qe_callB qc_len_seq gl_has_shape_len T.b_len bt_len (qa_N (qe_var 0 vo_has_shape_thing) qa_nil) nn_has_shape_len db_has_shape_len) qe_int (nomarkQ _)) (qe_one (qe_call (G_is_name.mono (by omega)) hr gl_has_shape_is_name T_is_name.m T_is_name.F.kp T_is_name.b .nil pass0 (qa_S (qe_ix qix_tup (qe_var 0 vo_has_shape_thing) qe_int) qa_nil) db_has_shape_is_name))))) qss_nil)
    (qss_cons (qs_if (qt_cmp qop_eq (qe_var 1 vo_has_shape_kind) qe_str (nomarkQ _)) (qss_one (qs_ret (qe_and (qe_cmp qop_eq (qe_callB qc_len_seq gl_has_shape_len T.b_len bt_len (qa_N (qe_var 0 vo_has_shape_thing) qa_nil) nn_has_shape_len db_has_shape_len) qe_int (nomarkQ _)) (qe_one (qe_call (G_is_choice.mono (by omega)) hr gl_has_shape_is_choice T_is_choice.m T_is_choice.F.kp T_is_choice.b .nil pass0 (qa_S (qe_ix qix_tup (qe_var 0 vo_has_shape_thing) qe_int) qa_nil) db_has_shape_is_choice))))) qss_nil)
    (qss_one (qs_ret (qe_and (qe_cmp (qop_inTab TW) (qe_var 1 vo_has_shape_kind) (qe_glob (v := .ref aW) gl_has_shape_WITHIN mW rfl db_has_shape_WITHIN) rfl) (qe_one (qe_cmp qop_eq (qe_callB qc_len_seq gl_has_shape_len T.b_len bt_len (qa_N (qe_var 0 vo_has_shape_thing) qa_nil) nn_has_shape_len db_has_shape_len) (qe_op qop_add qe_int (qe_ix (qix_tab TW) (qe_glob (v := .ref aW) gl_has_shape_WITHIN mW rfl db_has_shape_WITHIN) (qe_var 1 vo_has_shape_kind))) (nomarkQ _))))))))))), ?_⟩
  have h1 := ht.ty
  have h2 := ht.isi kd (c := "tuple") (by simp [tys])
  walk_at "vs"
  cases ht with
  | non => exact q _ (Same.refl _)
  | bl b => exact q _ (Same.refl _)
  | int i => exact q _ (Same.refl _)
  | str x => exact q _ (Same.refl _)
  | oth h hT k => rcases hT with rfl | rfl <;> exact q _ (Same.refl _)
  | @tup a ws ts e h =>
    cases h with
    | nil => walk_at "vs"; exact q _ (Same.refl _)
    | @cons x tx vs ts hx hr' =>
      have hl := hr'.length
      have h3 := hx.ty
      have h4 := hx.isi kd (c := "str") (by simp [tys])
      have at0 : atI (x :: vs) 0 = some x := atI_nat (j := 0) rfl
      walk_at "vs"
      cases hx with
      | non => exact q _ (Same.refl _)
      | bl b => exact q _ (Same.refl _)
      | int i => exact q _ (Same.refl _)
      | tup _ _ => exact q _ (Same.refl _)
      | oth h hT k => rcases hT with rfl | rfl <;> exact q _ (Same.refl _)
      | str k =>
        walk_at "vs"
        refine ite2 (fun c1 => ?_) (fun c1 => ?_)
        · have hk : k = "number" := V.str.inj (of_decide_eq_true c1)
          subst hk
          walk_at "vs"
          refine ite2 (fun c2 => ?_) (fun c2 => ?_)
          · have c3 := len_of.mp (of_decide_eq_true c2)
            cases hr' with
            | nil => simp at c3
            | @cons v1 t1 vs1 ts1 hv1 hr1 =>
              cases hr1 with
              | cons _ _ => simp at c3; omega
              | nil =>
                walk_at "vs"
                have ee : (shapeT (.tup [.str "number", t1])).isSome = wholeT t1 := by rw [shape_num]; cases wholeT t1 <;> rfl
                rw [ee] at q
                exact q _ (Same.refl _)
          · have c3 : ¬ (vs.length : Int) = 2 - 1 := fun z => c2 (decide_eq_true (len_of.mpr z))
            rw [shape_len1 (.inl rfl) (by omega)] at q
            exact q _ (Same.refl _)
        · walk_at "vs"
          refine ite2 (fun c2 => ?_) (fun c2 => ?_)
          · have hk : k = "read" := V.str.inj (of_decide_eq_true c2)
            subst hk
            walk_at "vs"
            refine ite2 (fun c2 => ?_) (fun c2 => ?_)
            · have c3 := len_of.mp (of_decide_eq_true c2)
              cases hr' with
              | nil => simp at c3
              | @cons v1 t1 vs1 ts1 hv1 hr1 =>
                cases hr1 with
                | cons _ _ => simp at c3; omega
                | nil =>
                  have hs1 := hsh.of t1 (by simp)
                  walk_at "vs"
                  intro H5 s5
                  have ee : (shapeT (.tup [.str "read", t1])).isSome = nameT t1 := by rw [shape_rd]; cases nameT t1 <;> rfl
                  rw [ee] at q
                  exact q _ s5
            · have c3 : ¬ (vs.length : Int) = 2 - 1 := fun z => c2 (decide_eq_true (len_of.mpr z))
              rw [shape_len1 (.inr rfl) (by omega)] at q
              exact q _ (Same.refl _)
          · walk_at "vs"
            refine ite2 (fun c3 => ?_) (fun c3 => ?_)
            · have hk : k = "choose" := V.str.inj (of_decide_eq_true c3)
              subst hk
              walk_at "vs"
              refine ite2 (fun c2 => ?_) (fun c2 => ?_)
              · have c3 := len_of.mp (of_decide_eq_true c2)
                cases hr' with
                | nil => simp at c3
                | @cons v1 t1 vs1 ts1 hv1 hr1 =>
                  cases hr1 with
                  | nil => simp at c3
                  | @cons v2 t2 vs2 ts2 hv2 hr2 =>
                    cases hr2 with
                    | cons _ _ => simp at c3; omega
                    | nil =>
                      have hs1 := hsh.of t2 (by simp)
                      walk_at "vs"
                      intro H5 s5
                      have ee : (shapeT (.tup [.str "choose", t1, t2])).isSome = choiceT t2 := by rw [shape_cho]; cases choiceT t2 <;> rfl
                      rw [ee] at q
                      exact q _ s5
              · have c3 : ¬ (vs.length : Int) = 3 - 1 := fun z => c2 (decide_eq_true (len_of.mpr z))
                rw [shape_len2 (.inl rfl) (by omega)] at q
                exact q _ (Same.refl _)
            · have n1 : k ≠ "number" := fun z => c1 (decide_eq_true (congrArg V.str z))
              have n2 : k ≠ "read" := fun z => c2 (decide_eq_true (congrArg V.str z))
              have n3 : k ≠ "choose" := fun z => c3 (decide_eq_true (congrArg V.str z))
              walk_at "vs"
              by_cases hop : k = "plus" ∨ k = "minus" ∨ k = "times" ∨ k = "most"
              · have lk : wLook k = some (.int 2) := by
                  rcases hop with z | z | z | z <;> rw [z]
                  · exact w_plus
                  · exact w_minus
                  · exact w_times
                  · exact w_most
                refine itB_t (show (wLook k).isSome = true by rw [lk]; rfl) ?_
                walk_at "vs"
                rw [op_isSome hop (x := V.str k) hl] at q
                exact q _ (Same.refl _)
              · by_cases hpk : k = "pick"
                · subst hpk
                  have lk := w_pick
                  refine itB_t (show (wLook "pick").isSome = true by rw [lk]; rfl) ?_
                  walk_at "vs"
                  rw [pick_isSome (x := V.str "pick") hl] at q
                  exact q _ (Same.refl _)
                · have hno : k ≠ "number" ∧ k ≠ "read" ∧ k ≠ "choose" ∧ k ≠ "plus" ∧ k ≠ "minus" ∧ k ≠ "times" ∧ k ≠ "most" ∧ k ≠ "pick" :=
                    ⟨n1, n2, n3, fun z => hop (.inl z), fun z => hop (.inr (.inl z)), fun z => hop (.inr (.inr (.inl z))), fun z => hop (.inr (.inr (.inr z))), hpk⟩
                  refine itB_f (show (wLook k).isSome = false by rw [w_none hno]; rfl) ?_
                  rw [shape_other hno] at q
                  exact q _ (Same.refl _)
noncomputable abbrev s_recipes_within : Stmt := top 14
theorem sc_recipes_within : FnScope ["r"] ["r"] (defScope s_recipes_within) := ⟨rfl, rfl, rfl, by decide +kernel, rfl, by decide +kernel, by decide +kernel⟩
theorem gl_recipes_within_WITHIN : (defScope s_recipes_within).names.lookup ("WITHIN" : Str) = some NameKind.globalImplicit := by decide +kernel
theorem db_recipes_within_WITHIN : (("WITHIN" : Str) == ("__debug__" : Str)) = false := by decide +kernel
theorem vo_recipes_within_r : VarOk (defScope s_recipes_within) "r" := by decide +kernel
theorem ok_recipes_within {f aW : Addr} {fd : FuncData} (T_recipes_within : FnT K mg "recipes_within" s_recipes_within ["r"] f fd) (T : Blt mg) (mW : mg "WITHIN" = some (.ref aW)) (TW : Tab P w K aW withinD) :
    FnOk P w K mg base CX0 1 f fd ["r"] (spWithin K) := by
  refine T_recipes_within.F.okQ sc_recipes_within (fun vs H Q E h => ?_) (fun cdv A outer s H vs Q E hr h => ?_)
  · obtain ⟨v, t, ks, H0, rfl, _⟩ := h
    rfl
  obtain ⟨v, t, ks, H0, rfl, ht, s0, hks, q⟩ := h
  refine ⟨_, (qss_one (qs_ret (qe_slice qsl_tup (qe_var 0 vo_recipes_within_r) (qo_some qe_int) (qo_some (qe_op qop_add qe_int (qe_ix (qix_tab TW) (qe_glob (v := .ref aW) gl_recipes_within_WITHIN mW rfl db_recipes_within_WITHIN) (qe_ix qix_tup (qe_var 0 vo_recipes_within_r) qe_int))))))), ?_⟩
  rcases shape_inv hks with ⟨x, rfl, rfl⟩ | ⟨x, rfl, rfl⟩ | ⟨x, y, rfl, rfl⟩ | ⟨k, x, y, hop, rfl, rfl⟩ | ⟨x, y, z, rfl, rfl⟩
  · cases ht with
    | @tup a ws ts e h =>
      cases h with
      | cons hx h => cases hx; cases h with
        | cons h1 h => cases h
                       have e' := s0 _ _ e
                       have lk := w_number
                       walk_at "vs"
                       intro p hp
                       exact q p [] _ (same_new _ hp) upd_same .nil
  · cases ht with
    | @tup a ws ts e h =>
      cases h with
      | cons hx h => cases hx; cases h with
        | cons h1 h => cases h
                       have e' := s0 _ _ e
                       have lk := w_read
                       walk_at "vs"
                       intro p hp
                       exact q p [] _ (same_new _ hp) upd_same .nil
  · cases ht with
    | @tup a ws ts e h =>
      cases h with
      | cons hx h => cases hx; cases h with
        | cons h1 h => cases h with
          | cons h2 h => cases h
                         have e' := s0 _ _ e
                         have lk := w_choose
                         walk_at "vs"
                         intro p hp
                         exact q p [_] _ (same_new _ hp) upd_same (.cons h1 .nil)
  · have lk : wLook k = some (.int 2) := by
      rcases hop with z | z | z | z <;> rw [z]
      · exact w_plus
      · exact w_minus
      · exact w_times
      · exact w_most
    cases ht with
    | @tup a ws ts e h =>
      cases h with
      | cons hx h => cases hx; cases h with
        | cons h1 h => cases h with
          | cons h2 h => cases h
                         have e' := s0 _ _ e
                         walk_at "vs"
                         intro p hp
                         exact q p [_, _] _ (same_new _ hp) upd_same (.cons h1 (.cons h2 .nil))
  · cases ht with
    | @tup a ws ts e h =>
      cases h with
      | cons hx h => cases hx; cases h with
        | cons h1 h => cases h with
          | cons h2 h => cases h with
            | cons h3 h => cases h
                           have e' := s0 _ _ e
                           have lk := w_pick
                           walk_at "vs"
                           intro p hp
                           exact q p [_, _, _] _ (same_new _ hp) upd_same (.cons h1 (.cons h2 (.cons h3 .nil)))
end

section
variable {P : Program} {w : World} {K : PySem.W.Frag} {mg : Str → Option Value} {base : Heap}
noncomputable abbrev s_is_recipe : Stmt := top 15
theorem sc_is_recipe : FnScope ["thing", "todo", "seen", "step", "depth", "part"] ["thing"] (defScope s_is_recipe) := ⟨rfl, rfl, rfl, by decide +kernel, rfl, by decide +kernel, by decide +kernel⟩
theorem lo_is_recipe_todo : Loc (defScope s_is_recipe) "todo" := by decide +kernel
theorem vo_is_recipe_thing : VarOk (defScope s_is_recipe) "thing" := by decide +kernel
theorem lo_is_recipe_seen : Loc (defScope s_is_recipe) "seen" := by decide +kernel
theorem vo_is_recipe_todo : VarOk (defScope s_is_recipe) "todo" := by decide +kernel
theorem lo_is_recipe_step : Loc (defScope s_is_recipe) "step" := by decide +kernel
theorem vo_is_recipe_seen : VarOk (defScope s_is_recipe) "seen" := by decide +kernel
theorem lo_is_recipe_depth : Loc (defScope s_is_recipe) "depth" := by decide +kernel
theorem vo_is_recipe_step : VarOk (defScope s_is_recipe) "step" := by decide +kernel
theorem gl_is_recipe_has_shape : (defScope s_is_recipe).names.lookup ("has_shape" : Str) = some NameKind.globalImplicit := by decide +kernel
theorem db_is_recipe_has_shape : (("has_shape" : Str) == ("__debug__" : Str)) = false := by decide +kernel
theorem vo_is_recipe_depth : VarOk (defScope s_is_recipe) "depth" := by decide +kernel
theorem gl_is_recipe_MOST_DEPTH : (defScope s_is_recipe).names.lookup ("MOST_DEPTH" : Str) = some NameKind.globalImplicit := by decide +kernel
theorem db_is_recipe_MOST_DEPTH : (("MOST_DEPTH" : Str) == ("__debug__" : Str)) = false := by decide +kernel
theorem gl_is_recipe_MOST_RECIPES : (defScope s_is_recipe).names.lookup ("MOST_RECIPES" : Str) = some NameKind.globalImplicit := by decide +kernel
theorem db_is_recipe_MOST_RECIPES : (("MOST_RECIPES" : Str) == ("__debug__" : Str)) = false := by decide +kernel
theorem gl_is_recipe_recipes_within : (defScope s_is_recipe).names.lookup ("recipes_within" : Str) = some NameKind.globalImplicit := by decide +kernel
theorem db_is_recipe_recipes_within : (("recipes_within" : Str) == ("__debug__" : Str)) = false := by decide +kernel
theorem lo_is_recipe_part : Loc (defScope s_is_recipe) "part" := by decide +kernel
theorem vo_is_recipe_part : VarOk (defScope s_is_recipe) "part" := by decide +kernel
theorem ok_is_recipe {f g1 g2 : Addr} {fd gd1 gd2 : FuncData} {tR tD : Tok} (T_is_recipe : FnT K mg "is_recipe" s_is_recipe ["thing"] f fd)
    (T_has_shape : FnT K mg "has_shape" s_has_shape ["thing"] g1 gd1) (G_has_shape : FnOk P w K mg base CX0 3 g1 gd1 ["thing"] (spShape K))
    (T_recipes_within : FnT K mg "recipes_within" s_recipes_within ["r"] g2 gd2) (G_recipes_within : FnOk P w K mg base CX0 1 g2 gd2 ["r"] (spWithin K))
    (T : Blt mg) (mMR : mg "MOST_RECIPES" = some (.int 100 tR)) (mMD : mg "MOST_DEPTH" = some (.int 8 tD)) : FnOk P w K mg base CX0 4 f fd ["thing"] (spIsRec K) := by
  refine T_is_recipe.F.okQ sc_is_recipe (fun vs H Q E h => ?_) (fun cdv A outer s H vs Q E hr h => ?_)
  · obtain ⟨v, t, rfl, _⟩ := h
    rfl
  obtain ⟨v, t, rfl, ht, hsh, q⟩ := h
  refine ⟨_, (qss_cons (qs_set (i := 1) sc_is_recipe.nd rfl lo_is_recipe_todo (qe_lst (qa_T (qe_tup (qa_N (qe_var 0 vo_is_recipe_thing) (qa_C qe_int qa_nil))) qa_nil)))
    (qss_cons (qs_set (i := 2) sc_is_recipe.nd rfl lo_is_recipe_seen qe_int)
    (qss_cons (qs_while PassesOwn.never (qt_truth (qe_var 1 vo_is_recipe_todo)) (qss_cons (qs_set (i := 3) sc_is_recipe.nd rfl lo_is_recipe_step (qe_bm0 PySem.F.plainAttrs_list PySem.F.slot_list_pop PySem.F.type_list_pop qmt_pop (qe_var 1 vo_is_recipe_todo)))
    (qss_cons (qs_set (i := 2) sc_is_recipe.nd rfl lo_is_recipe_seen (qe_op qop_add (qe_var 2 vo_is_recipe_seen) qe_int))
    (qss_cons (qs_set (i := 4) sc_is_recipe.nd rfl lo_is_recipe_depth (qe_ix qix_tup (qe_var 3 vo_is_recipe_step) qe_int))
    (qss_cons (qs_if (qt_w (qw_or (qt_cmp qop_gt (qe_var 2 vo_is_recipe_seen) (qe_glob (v := .int 100) gl_is_recipe_MOST_RECIPES mMR ⟨_, rfl⟩ db_is_recipe_MOST_RECIPES) (nomarkQ _)) (qw_or (qt_cmp qop_gt (qe_var 4 vo_is_recipe_depth) (qe_glob (v := .int 8) gl_is_recipe_MOST_DEPTH mMD ⟨_, rfl⟩ db_is_recipe_MOST_DEPTH) (nomarkQ _)) (qw_or1 (qt_not (qt_val (qe_call (G_has_shape.mono (by omega)) hr gl_is_recipe_has_shape T_has_shape.m T_has_shape.F.kp T_has_shape.b .nil pass0 (qa_S (qe_ix qix_tup (qe_var 3 vo_is_recipe_step) qe_int) qa_nil) db_is_recipe_has_shape))))))) (qss_one (qs_ret qe_bl)) qss_nil)
    (qss_one (qs_for PassesOwn.never rfl (qi_tup (qe_call (G_recipes_within.mono (by omega)) hr gl_is_recipe_recipes_within T_recipes_within.m T_recipes_within.F.kp T_recipes_within.b .nil pass0 (qa_S (qe_ix qix_tup (qe_var 3 vo_is_recipe_step) qe_int) qa_nil) db_is_recipe_recipes_within)) (qg_name (i := 5) sc_is_recipe.nd rfl lo_is_recipe_part) (qss_one (qs_expr (qe_bm PySem.F.plainAttrs_list PySem.F.slot_list_append PySem.F.type_list_append qmt_append (qe_var 1 vo_is_recipe_todo) (qa_T (qe_tup (qa_N (qe_var 5 vo_is_recipe_part) (qa_B (qe_op qop_add (qe_var 4 vo_is_recipe_depth) qe_int) qa_nil))) qa_nil)))))))))))
    (qss_one (qs_ret qe_bl))))), ?_⟩
  walk_at "vs"
  intro p1 hp1
  walk_at "vs"
  intro td htd
  walk_at "vs"
  have htH : H td = none := (same_new (.tup [v, V.int 1]) hp1).free htd
  refine ⟨fun m σ H' => ∃ (seen : Nat) (js : List Job) (t3 t4 t5 : Option V), m = 101 - seen ∧ σ = [some v, some (.ref td), some (.int seen), t3, t4, t5] ∧ Same H H' ∧ H' td = some (.lst (js.map fun j => V.ref j.a)) ∧ (∀ j ∈ js, JOk K H H' j) ∧
    seen ≤ 100 ∧ js.length ≤ 1 + 3 * seen ∧ (szN 8 t ≤ 100 ↔ seen + sumJ js ≤ 100), ⟨101, 0, [⟨p1, v, t, 1⟩], none, none, none, rfl, rfl, (same_new _ hp1).trans (same_new _ htd), upd_same, ?_, by decide, Nat.le_refl 1, ?_⟩, ?_⟩
  · intro j hj
    have : j = ⟨p1, v, t, 1⟩ := by simpa using hj
    subst this
    exact ⟨same_new _ htd _ _ upd_same, ht, hsh, Nat.le_refl 1, Nat.le_of_ble_eq_true rfl⟩
  · simp [sumJ]
  rintro m σ H1 ⟨seen, js, t3, t4, t5, rfl, rfl, s1, e1, hjs, h100, hlen, hiff⟩
  walk_at "vs"
  rcases List.eq_nil_or_concat js with rfl | ⟨js0, j, rfl⟩
  · walk_at "vs"
    have hd : decide (szN 8 t ≤ 100) = true := decide_eq_true (hiff.mpr (by simpa [sumJ] using h100))
    rw [hd] at q
    exact q _ s1
  · simp only [List.concat_eq_append] at e1 hjs hlen hiff ⊢
    refine itB_t (by simp) ?_
    rw [List.map_append] at e1
    obtain ⟨je, ji, jsh, jlo, jhi⟩ := hjs j (by simp)
    have hj0 : ∀ j' ∈ js0, JOk K H H1 j' := fun j' hj' => hjs j' (List.mem_append_left _ hj')
    have hl0 : js0.length + 1 ≤ 1 + 3 * seen := by simpa using hlen
    rw [sumJ_snoc] at hiff
    have hpos := szN_pos (9 - j.d) j.t
    refine ⟨fun σ' H' => ∃ (js : List Job) (t3 t4 t5 : Option V), σ' = [some v, some (.ref td), some (.int ((seen + 1 : Nat) : Int)), t3, t4, t5] ∧ Same H H' ∧ H' td = some (.lst (js.map fun j => V.ref j.a)) ∧ (∀ j ∈ js, JOk K H H' j) ∧
      seen + 1 ≤ 100 ∧ js.length ≤ 1 + 3 * (seen + 1) ∧ (szN 8 t ≤ 100 ↔ (seen + 1) + sumJ js ≤ 100), ?_, ?_⟩
    · rintro σ' H' ⟨js, t3, t4, t5, rfl, a1, a2, a3, a4, a5, a6⟩
      exact ⟨101 - (seen + 1), by omega, seen + 1, js, t3, t4, t5, rfl, rfl, a1, a2, a3, a4, a5, a6⟩
    · have e1' : H1 td = some (.lst ((js0.map fun j => V.ref j.a) ++ [V.ref j.a])) := e1
      have hlast : ((js0.map fun j => V.ref j.a) ++ [V.ref j.a])[((js0.map fun j => V.ref j.a) ++ [V.ref j.a]).length - 1]? = some (V.ref j.a) := by simp
      have hne : j.a ≠ td := ne_of je e1 (by intro z; cases z)
      walk_at "vs"
      rw [List.dropLast_concat]
      have tu : Tups H1 (upd H1 td (.lst (js0.map fun j => V.ref j.a))) := tups_set _ e1
      have je2 := tu _ _ je
      have s2 : Same H (upd H1 td (.lst (js0.map fun j => V.ref j.a))) := same_updN _ htH s1
      walk_at "vs"
      refine ite2 (fun c1 => ?_) (fun c1 => ?_)
      · have c1' : (100 : Int) < (seen : Int) + 1 := by simpa using c1
        walk_at "vs"
        have hd : decide (szN 8 t ≤ 100) = false := decide_eq_false fun z => by have := hiff.mp z; omega
        rw [hd] at q
        exact q _ s2
      · have c1' : ¬ (100 : Int) < (seen : Int) + 1 := by simpa using c1
        walk_at "vs"
        refine ite2 (fun c2 => ?_) (fun c2 => ?_)
        · have c2' : (8 : Int) < (j.d : Int) := by simpa using c2
          walk_at "vs"
          have hd : decide (szN 8 t ≤ 100) = false := decide_eq_false fun z => by
            have := hiff.mp z
            have e9 : 9 - j.d = 0 := by omega
            rw [e9] at this
            have : szN 0 j.t = 1000 := rfl
            omega
          rw [hd] at q
          exact q _ s2
        · have c2' : ¬ (8 : Int) < (j.d : Int) := by simpa using c2
          have ji2 := ji.same s2
          walk_at "vs"
          intro H5 s5
          have je5 := s5 _ _ je2
          have etd5 := s5 _ _ (upd_same (H := H1) (a := td) (o := .lst (js0.map fun j => V.ref j.a)))
          have s25 := s2.trans s5
          clear ji2
          cases hsp : shapeT j.t with
          | none =>
            walk_at "vs"
            have hd : decide (szN 8 t ≤ 100) = false := decide_eq_false fun z => by
              have := hiff.mp z
              have := szN_none (d := 9 - j.d) hsp
              omega
            rw [hd] at q
            exact q _ s25
          | some ks =>
            have hk3 := kids_le hsp
            have hks := kids_short hsp jsh
            walk_at "vs"
            intro a ws H6 s6 e6 h6
            have hwl := h6.length
            have etd6 := s6 _ _ etd5
            walk_at "vs"
            refine for_tup (xs := ws) (fun i σ' Hc => Wr (∃ (js' : List Job) (t5 : Option V), σ' = [some v, some (.ref td), some (.int ((seen : Int) + 1)), some (.ref j.a), some (.int j.d), t5] ∧ Same H Hc ∧ Hc td = some (.lst (js'.map fun j => V.ref j.a)) ∧ (∀ j ∈ js', JOk K H Hc j) ∧
              js'.length = js0.length + i ∧ sumJ js' = sumJ js0 + ((ks.take i).map (szN (8 - j.d))).sum ∧ Hc a = some (.tup ws))) ?_ ?_ ?_ ?_
            · exact .mk ⟨js0, _, rfl, s25.trans s6, etd6, fun j' hj' => (hj0 j' hj').tups (tu.trans (Same.tups (s5.trans s6))), rfl, by simp, e6⟩
            · intro i σ' Hc _ hP
              obtain ⟨_, _, _, _, _, _, _, _, ea⟩ := hP.h
              exact SqT.of ea
            · intro i x σ' Hc hx hP
              obtain ⟨js', t5', rfl, sc, etd, hj', hl', hsum, ea⟩ := hP.h
              obtain ⟨kt, hk1, hk2⟩ := h6.get hx
              have hi : i < ws.length := (List.getElem?_eq_some_iff.mp hx).1
              have hz : (js'.map fun j => V.ref j.a).length < sizeLine := by rw [List.length_map]; exact small1000 (by omega)
              walk_at "vs"
              intro p hp
              have hpn : td ≠ p := ne_of_none etd hp
              have sp := same_new (.tup [x, V.int ((j.d : Int) + 1)]) hp
              have etdp := sp _ _ etd
              walk_at "vs"
              have tu2 : Tups Hc _ := (Same.tups sp).trans (tups_set (.lst ((js'.map fun j => V.ref j.a) ++ [V.ref p])) etdp)
              refine .mk ⟨js' ++ [⟨p, x, kt, j.d + 1⟩], _, rfl, same_updN _ htH (sc.trans sp), ?_, ?_, ?_, ?_, ?_⟩
              · rw [upd_same, List.map_append]; rfl
              · intro j' hj2
                rcases List.mem_append.mp hj2 with z | z
                · exact (hj' j' z).tups tu2
                · have : j' = ⟨p, x, kt, j.d + 1⟩ := by simpa using z
                  subst this
                  refine ⟨?_, hk2, hks kt (List.mem_of_getElem? hk1), by show 1 ≤ j.d + 1; omega, by show j.d + 1 ≤ 9; omega⟩
                  rw [upd_ne (Ne.symm hpn)]
                  exact upd_same
              · rw [List.length_append, hl']; rfl
              · rw [sumJ_snoc, hsum, List.take_succ, hk1, List.map_append, List.sum_append]
                have : 9 - (j.d + 1) = 8 - j.d := by omega
                show _ + szN (9 - (j.d + 1)) kt = _
                rw [this]
                simp
                omega
              · exact tu2 _ _ ea
            · intro σ' Hc hP
              obtain ⟨js', t5', rfl, sc, etd, hj', hl', hsum, ea⟩ := hP.h
              rw [hwl, List.take_length] at hsum
              refine ⟨js', _, _, _, rfl, sc, etd, hj', by omega, by omega, ?_⟩
              rw [hiff, szN_some (by omega) hsp, hsum]
              omega
end

section
variable {P : Program} {w : World} {K : PySem.W.Frag} {mg : Str → Option Value} {base : Heap}
noncomputable abbrev s_rows_of : Stmt := top 18
theorem sc_rows_of : FnScope ["reads"] ["reads"] (defScope s_rows_of) := ⟨rfl, rfl, rfl, by decide +kernel, rfl, by decide +kernel, by decide +kernel⟩
theorem gl_rows_of_range : (defScope s_rows_of).names.lookup ("range" : Str) = some NameKind.globalImplicit := by decide +kernel
theorem gl_rows_of_LONGEST_ROW : (defScope s_rows_of).names.lookup ("LONGEST_ROW" : Str) = some NameKind.globalImplicit := by decide +kernel
theorem db_rows_of_LONGEST_ROW : (("LONGEST_ROW" : Str) == ("__debug__" : Str)) = false := by decide +kernel
theorem gl_rows_of_len : (defScope s_rows_of).names.lookup ("len" : Str) = some NameKind.globalImplicit := by decide +kernel
theorem vo_rows_of_reads : VarOk (defScope s_rows_of) "reads" := by decide +kernel
theorem nn_rows_of_len : ("len" : Str) ≠ "__name__" := by decide +kernel
theorem db_rows_of_len : (("len" : Str) == ("__debug__" : Str)) = false := by decide +kernel
theorem ok_rows_of {f : Addr} {fd : FuncData} {tL : Tok} (T_rows_of : FnT K mg "rows_of" s_rows_of ["reads"] f fd) (T : Blt mg) (mLR : mg "LONGEST_ROW" = some (.int 3 tL)) : FnOk P w K mg base CX0 1 f fd ["reads"] sp2Rows := by
  refine T_rows_of.F.okQ sc_rows_of (fun vs H Q E h => ?_) (fun cdv A outer s H vs Q E hr h => ?_)
  · obtain ⟨p, as, ps, rfl, _⟩ := h
    rfl
  obtain ⟨p, as, ps, rfl, e, hR, hn, q⟩ := h
  refine ⟨_, (qss_one (qs_ret (qe_comp rfl (n := 1) (fr := [0]) (N := ["place", "reads"]) (cs_mk (scX := defScope s_rows_of) (NX := ["reads"]) rfl rfl (by decide +kernel)) (qi_range3 gl_rows_of_range T.b_range (qa_C qe_int (qa_F (qe_callB qc_len_seq gl_rows_of_len T.b_len bt_len (qa_N (qe_var 0 vo_rows_of_reads) qa_nil) nn_rows_of_len db_rows_of_len) (qa_N (qe_glob (v := .int 3) gl_rows_of_LONGEST_ROW mLR ⟨_, rfl⟩ db_rows_of_LONGEST_ROW) qa_nil)))) (fun _ _ _ _ _ => (qgx (i := 0) (show List.Nodup (α := Str) ["place", "reads"] by decide) (locC (by decide +kernel)))) (fun _ _ _ _ _ => qi_nil) (fun _ _ _ _ _ => (qe_slice (qsl_listK (K := K) rfl) (qe_var 1 (VarC.ok (by decide +kernel))) (qo_some (qe_var 0 (VarC.ok (by decide +kernel)))) (qo_some (qe_op qop_add (qe_var 0 (VarC.ok (by decide +kernel))) (qe_glob (v := .int 3) (glC (by decide +kernel)) mLR ⟨_, rfl⟩ db_rows_of_LONGEST_ROW)))))))), ?_⟩
  have hl := hR.length
  have hlm : (as.map V.ref).length = as.length := List.length_map _
  walk_at "vs"
  intro D hD
  have hrn : rngN 0 (((as.map V.ref).length : Nat) : Int) 3 = (ps.length + 2) / 3 := by rw [hlm, hl]; exact rng3 _
  refine comp_range3 (fun i σ' H' => (∃ t, σ' = t :: [some (.ref p)]) ∧ Same H H' ∧ ∃ qs : List Addr, H' D = some (.lst (qs.map V.ref)) ∧ (∀ q ∈ qs, q ∉ [D]) ∧ RowsAt H' qs ((List.range i).map fun i => (ps.drop (3 * i)).take 3)) ?_ ?_ ?_
  · exact ⟨⟨none, rfl⟩, same_new _ hD, [], upd_same, by simp, .nil⟩
  · intro i σ' H' hi hP
    obtain ⟨⟨t, rfl⟩, hs, qs, eD, hnq, hro⟩ := hP
    rw [hrn] at hi
    have ep := hs _ _ e
    have hql := hro.length
    rw [List.length_map, List.length_range] at hql
    walk_at "vs"
    intro p5 hp5
    rw [three_cut (as := as) (i := i) (by omega)]
    have s5 := same_new (.lst (((as.drop (3 * i)).take 3).map V.ref)) hp5
    have e5 : upd H' p5 (.lst (((as.drop (3 * i)).take 3).map V.ref)) p5 = some (.lst (((as.drop (3 * i)).take 3).map V.ref)) := upd_same
    have eD5 := s5 _ _ eD
    have ro5 := hro.same s5
    generalize upd H' p5 (.lst (((as.drop (3 * i)).take 3).map V.ref)) = H5 at *
    have hz : (qs.map V.ref).length < sizeLine := by rw [List.length_map]; exact small1000 (by omega)
    have hne : p5 ≠ D := fun z => by rw [z, eD] at hp5; cases hp5
    have tp : Tups H5 (upd H5 D (.lst (qs.map V.ref ++ [.ref p5]))) := fun y xs z => (upd_ne (fun w => by rw [w, eD5] at z; cases z)).trans z
    have b6 : But [D] H5 (upd H5 D (.lst (qs.map V.ref ++ [.ref p5]))) := But.set _ (by simp)
    have R5 := ((hR.drop (3 * i)).take 3).same (hs.trans s5)
    refine ⟨_, eD5, hz, ⟨_, rfl⟩, same_updN _ hD (hs.trans s5), qs ++ [p5], by rw [upd_same, List.map_append]; rfl, fun q' hq' => ?_, ?_⟩
    · rcases List.mem_append.mp hq' with z | z
      · exact hnq q' z
      · have : q' = p5 := by simpa using z
        rw [this]; simpa using hne
    · rw [List.range_succ, List.map_append]
      exact (ro5.but b6 tp hnq).snoc ((upd_ne hne).trans e5) (R5.tups tp)
  · intro σ' H' hP
    obtain ⟨_, hs, qs, eD, _, hro⟩ := hP
    rw [hrn] at hro
    exact q D qs H' hs eD hro
noncomputable abbrev s_reading : Stmt := top 19
theorem sc_reading : FnScope ["row", "r", "read"] ["row"] (defScope s_reading) := ⟨rfl, rfl, rfl, by decide +kernel, rfl, by decide +kernel, by decide +kernel⟩
theorem lo_reading_r : Loc (defScope s_reading) "r" := by decide +kernel
theorem vo_reading_row : VarOk (defScope s_reading) "row" := by decide +kernel
theorem lo_reading_read : Loc (defScope s_reading) "read" := by decide +kernel
theorem vo_reading_read : VarOk (defScope s_reading) "read" := by decide +kernel
theorem vo_reading_r : VarOk (defScope s_reading) "r" := by decide +kernel
theorem ok_reading {f : Addr} {fd : FuncData} (T_reading : FnT K mg "reading" s_reading ["row"] f fd) (T : Blt mg) : FnOk P w K mg base CX0 1 f fd ["row"] sp2Reading := by
  refine T_reading.F.okQ sc_reading (fun vs H Q E h => ?_) (fun cdv A outer s H vs Q E hr h => ?_)
  · obtain ⟨p, as, row, rfl, _⟩ := h
    rfl
  obtain ⟨p, as, row, rfl, e, hR, hne, q⟩ := h
  refine ⟨_, (qss_cons (qs_set (i := 1) sc_reading.nd rfl lo_reading_r (qe_tup (qa_C qe_str (qa_S (qe_ix qix_tup (qe_ix qix_list (qe_var 0 vo_reading_row) qe_int) qe_int) qa_nil))))
    (qss_cons (qs_for PassesOwn.never rfl (qi_list (qe_slice qsl_list (qe_var 0 vo_reading_row) (qo_some qe_int) qo_none)) (qg_name (i := 2) sc_reading.nd rfl lo_reading_read) (qss_one (qs_set (i := 1) sc_reading.nd rfl lo_reading_r (qe_tup (qa_C qe_str (qa_N (qe_var 1 vo_reading_r) (qa_T (qe_tup (qa_S (qe_ix qix_tup (qe_var 2 vo_reading_read) qe_int) qa_nil)) qa_nil)))))))
    (qss_one (qs_ret (qe_var 1 vo_reading_r))))), ?_⟩
  have hl := hR.length
  cases hR with
  | nil => exact absurd rfl hne
  | @cons a0 p0 as ps ha0 hR =>
  have at0 : atI ((a0 :: as).map V.ref) 0 = some (.ref a0) := atI_nat (j := 0) rfl
  have at00 : atI (rdV p0) 0 = some (.str p0.1) := atI_nat (j := 0) rfl
  walk_at "vs"
  intro p1 hp1
  have s1 := same_new (.tup [V.str "read", V.str p0.1]) hp1
  have e1 := s1 _ _ e
  have R1 : IsR (upd H p1 (.tup [V.str "read", V.str p0.1])) p1 (.rd p0.1) := .rd upd_same
  generalize upd H p1 (.tup [V.str "read", V.str p0.1]) = H1 at *
  walk_at "vs"
  intro p2 hp2
  rw [show (1 : Int) = ((1 : Nat) : Int) from rfl, cut_from', show ((a0 :: as).map V.ref).drop 1 = as.map V.ref from rfl]
  have s2 := s1.trans (same_new (.lst (as.map V.ref)) hp2)
  have e2 : upd H1 p2 (.lst (as.map V.ref)) p2 = some (.lst (as.map V.ref)) := upd_same
  have R2 := R1.same (same_new (.lst (as.map V.ref)) hp2)
  generalize upd H1 p2 (.lst (as.map V.ref)) = H2 at *
  walk_at "vs"
  refine for_list (xs := as.map V.ref) (fun i σ H' => ∃ a t, σ = [some (.ref p), some (.ref a), t] ∧ Same H2 H' ∧ IsR H' a ((ps.take i).foldl (fun r q => .cho r [q.1]) (.rd p0.1))) ?_ ?_ ?_ ?_
  · exact ⟨p1, none, rfl, Same.refl _, R2⟩
  · rintro i σ H' _ ⟨a, t, rfl, hs, _⟩
    exact SqL.of (hs _ _ e2)
  · rintro i x σ H' hx ⟨a, t, rfl, hs, hr1⟩
    obtain ⟨b, hb, rfl⟩ := ref_at hx
    obtain ⟨pb, hpb, eb⟩ := hR.get i b hb
    have eb' := hs _ _ (s2 _ _ eb)
    have atb : atI (rdV pb) 0 = some (.str pb.1) := atI_nat (j := 0) rfl
    walk_at "vs"
    intro p3 hp3
    walk_at "vs"
    intro p4 hp4
    have s3 := (same_new (.tup [V.str pb.1]) hp3).trans (same_new (.tup [V.str "choose", V.ref a, V.ref p3]) hp4)
    refine ⟨p4, _, rfl, hs.trans s3, ?_⟩
    rw [List.take_add_one, hpb]
    show IsR _ p4 (((ps.take i) ++ [pb]).foldl _ _)
    rw [List.foldl_append]
    exact .cho upd_same (hr1.same s3) ((upd_ne (ne_of_none upd_same hp4)).trans upd_same)
  · rintro σ H' ⟨a, t, rfl, hs, hr1⟩
    walk_at "vs"
    rw [show ps.take (as.map V.ref).length = ps by rw [List.length_map, hR.length]; exact List.take_length] at hr1
    exact q a H' (s2.trans hs) hr1
noncomputable abbrev s_summed : Stmt := top 20
theorem sc_summed : FnScope ["parts", "half"] ["parts"] (defScope s_summed) := ⟨rfl, rfl, rfl, by decide +kernel, rfl, by decide +kernel, by decide +kernel⟩
theorem gl_summed_len : (defScope s_summed).names.lookup ("len" : Str) = some NameKind.globalImplicit := by decide +kernel
theorem vo_summed_parts : VarOk (defScope s_summed) "parts" := by decide +kernel
theorem nn_summed_len : ("len" : Str) ≠ "__name__" := by decide +kernel
theorem db_summed_len : (("len" : Str) == ("__debug__" : Str)) = false := by decide +kernel
theorem lo_summed_half : Loc (defScope s_summed) "half" := by decide +kernel
theorem gl_summed_summed : (defScope s_summed).names.lookup ("summed" : Str) = some NameKind.globalImplicit := by decide +kernel
theorem vo_summed_half : VarOk (defScope s_summed) "half" := by decide +kernel
theorem db_summed_summed : (("summed" : Str) == ("__debug__" : Str)) = false := by decide +kernel
noncomputable def spS : Nat → Sp
  | 0 => fun _ _ _ _ => False
  | k + 1 => sp2Summed k
theorem step_summed {k : Nat} {f : Addr} {fd : FuncData} (T_summed : FnT K mg "summed" s_summed ["parts"] f fd) (G_summed : FnOk P w K mg base CX0 k f fd ["parts"] (spS k)) (T : Blt mg) : FnOk P w K mg base CX0 (k + 1) f fd ["parts"] (sp2Summed k) := by
  refine T_summed.F.okQ sc_summed (fun vs H Q E h => ?_) (fun cdv A outer s H vs Q E hr h => ?_)
  · obtain ⟨p, as, rs, rfl, _⟩ := h
    rfl
  obtain ⟨p, as, rs, rfl, e, hP, h1, hk, h6, q⟩ := h
  refine ⟨_, (qss_cons (qs_if (qt_cmp qop_eq (qe_callB qc_len_seq gl_summed_len T.b_len bt_len (qa_N (qe_var 0 vo_summed_parts) qa_nil) nn_summed_len db_summed_len) qe_int (nomarkQ _)) (qss_one (qs_ret (qe_ix qix_list (qe_var 0 vo_summed_parts) qe_int))) qss_nil)
    (qss_cons (qs_set (i := 1) sc_summed.nd rfl lo_summed_half (qe_op qop_fdiv (qe_callB qc_len_seq gl_summed_len T.b_len bt_len (qa_N (qe_var 0 vo_summed_parts) qa_nil) nn_summed_len db_summed_len) qe_int))
    (qss_one (qs_ret (qe_tup (qa_C qe_str (qa_F (qe_call (G_summed.mono (by omega)) hr gl_summed_summed T_summed.m T_summed.F.kp T_summed.b .nil pass0 (qa_S (qe_slice qsl_list (qe_var 0 vo_summed_parts) qo_none (qo_some (qe_var 1 vo_summed_half))) qa_nil) db_summed_summed) (qa_F (qe_call (G_summed.mono (by omega)) hr gl_summed_summed T_summed.m T_summed.F.kp T_summed.b .nil pass0 (qa_S (qe_slice qsl_list (qe_var 0 vo_summed_parts) (qo_some (qe_var 1 vo_summed_half)) qo_none) qa_nil) db_summed_summed) qa_nil)))))))), ?_⟩
  have hl := hP.length
  have hlm : (as.map V.ref).length = as.length := List.length_map _
  have h64 : (2 : Nat) ^ k ≤ 64 := Nat.pow_le_pow_right (n := 2) (by decide) h6
  walk_at "vs"
  refine ite2 (fun c1 => ?_) (fun c1 => ?_)
  · have c1' : (as.length : Int) = 1 := by simpa using c1
    have c1' : rs.length = 1 := by omega
    cases hP with
    | nil => simp at c1'
    | @cons a r as rs hr1 t =>
      have hn : rs = [] := List.length_eq_zero_iff.mp (by simpa using c1')
      subst hn
      cases t
      have at0 : atI ([a].map V.ref) 0 = some (.ref a) := atI_nat (j := 0) rfl
      walk_at "vs"
      have e1 : sumF k [r] = r := by cases k <;> simp [sumF]
      exact q a H (Same.refl _) (by rw [e1]; exact hr1)
  · have c1' : ¬ (as.length : Int) = 1 := by simpa using c1
    have c1' : ¬ rs.length = 1 := by omega
    cases k with
    | zero => omega
    | succ k =>
    have hk2 : rs.length ≤ 2 * 2 ^ k := by rw [Nat.pow_succ] at hk; omega
    walk_at "vs"
    have hhalf : ((as.map V.ref).length : Int) / 2 = ((rs.length / 2 : Nat) : Int) := by rw [hlm]; omega
    rw [hhalf]
    intro p1 hp1
    rw [cut_to, ← List.map_take]
    have s1 := same_new (.lst ((as.take (rs.length / 2)).map V.ref)) hp1
    have e1 : upd H p1 (.lst ((as.take (rs.length / 2)).map V.ref)) p1 = some (.lst ((as.take (rs.length / 2)).map V.ref)) := upd_same
    generalize upd H p1 (.lst ((as.take (rs.length / 2)).map V.ref)) = H1 at *
    refine ⟨p1, as.take (rs.length / 2), rs.take (rs.length / 2), rfl, e1, (hP.take _).same s1, by rw [List.length_take]; omega, by rw [List.length_take]; omega, by omega, ?_⟩
    intro a H2 s2 R2
    have ep2 := s2 _ _ (s1 _ _ e)
    walk_at "vs"
    intro p3 hp3
    rw [hhalf, cut_from', ← List.map_drop]
    have s3 := same_new (.lst ((as.drop (rs.length / 2)).map V.ref)) hp3
    have e3 : upd H2 p3 (.lst ((as.drop (rs.length / 2)).map V.ref)) p3 = some (.lst ((as.drop (rs.length / 2)).map V.ref)) := upd_same
    have R3 := R2.same s3
    generalize upd H2 p3 (.lst ((as.drop (rs.length / 2)).map V.ref)) = H3 at *
    refine ⟨p3, as.drop (rs.length / 2), rs.drop (rs.length / 2), rfl, e3, (hP.drop _).same (s1.trans (s2.trans s3)), by rw [List.length_drop]; omega, by rw [List.length_drop]; omega, by omega, ?_⟩
    intro b H4 s4 R4
    walk_at "vs"
    intro p5 hp5
    have s5 := same_new (.tup [V.str "plus", V.ref a, V.ref b]) hp5
    have e5 : sumF (k + 1) rs = .bin .plus (sumF k (rs.take (rs.length / 2))) (sumF k (rs.drop (rs.length / 2))) := by rw [sumF, if_neg c1']
    refine q p5 _ (s1.trans (s2.trans (s3.trans (s4.trans s5)))) ?_
    rw [e5]
    exact .bin (op := .plus) upd_same ((R3.same s4).same s5) (R4.same s5)
theorem ok_summed {f : Addr} {fd : FuncData} (T_summed : FnT K mg "summed" s_summed ["parts"] f fd) (T : Blt mg) : ∀ k, FnOk P w K mg base CX0 (k + 1) f fd ["parts"] (sp2Summed k)
  | 0 => step_summed T_summed (never fun _ _ _ _ z => z) T
  | k + 1 => step_summed T_summed (ok_summed T_summed T k) T
end

section
variable {P : Program} {w : World} {K : PySem.W.Frag} {mg : Str → Option Value} {base : Heap} {CE : Addr}
/-- a record with reads -/
noncomputable abbrev s_twin_of : Stmt := top 21
theorem sc_twin_of : FnScope ["record", "k", "reads", "rows", "rest", "twin"] ["record", "k"] (defScope s_twin_of) := ⟨rfl, rfl, rfl, by decide +kernel, rfl, by decide +kernel, by decide +kernel⟩
theorem lo_twin_of_reads : Loc (defScope s_twin_of) "reads" := by decide +kernel
theorem vo_twin_of_record : VarOk (defScope s_twin_of) "record" := by decide +kernel
theorem vo_twin_of_k : VarOk (defScope s_twin_of) "k" := by decide +kernel
theorem gl_twin_of_len : (defScope s_twin_of).names.lookup ("len" : Str) = some NameKind.globalImplicit := by decide +kernel
theorem vo_twin_of_reads : VarOk (defScope s_twin_of) "reads" := by decide +kernel
theorem nn_twin_of_len : ("len" : Str) ≠ "__name__" := by decide +kernel
theorem db_twin_of_len : (("len" : Str) == ("__debug__" : Str)) = false := by decide +kernel
theorem gl_twin_of_set : (defScope s_twin_of).names.lookup ("set" : Str) = some NameKind.globalImplicit := by decide +kernel
theorem nn_twin_of_set : ("set" : Str) ≠ "__name__" := by decide +kernel
theorem db_twin_of_set : (("set" : Str) == ("__debug__" : Str)) = false := by decide +kernel
theorem lo_twin_of_rows : Loc (defScope s_twin_of) "rows" := by decide +kernel
theorem gl_twin_of_rows_of : (defScope s_twin_of).names.lookup ("rows_of" : Str) = some NameKind.globalImplicit := by decide +kernel
theorem db_twin_of_rows_of : (("rows_of" : Str) == ("__debug__" : Str)) = false := by decide +kernel
theorem lo_twin_of_rest : Loc (defScope s_twin_of) "rest" := by decide +kernel
theorem gl_twin_of_sum : (defScope s_twin_of).names.lookup ("sum" : Str) = some NameKind.globalImplicit := by decide +kernel
theorem vo_twin_of_rows : VarOk (defScope s_twin_of) "rows" := by decide +kernel
theorem nn_twin_of_sum : ("sum" : Str) ≠ "__name__" := by decide +kernel
theorem db_twin_of_sum : (("sum" : Str) == ("__debug__" : Str)) = false := by decide +kernel
theorem lo_twin_of_twin : Loc (defScope s_twin_of) "twin" := by decide +kernel
theorem gl_twin_of_summed : (defScope s_twin_of).names.lookup ("summed" : Str) = some NameKind.globalImplicit := by decide +kernel
theorem db_twin_of_reading : (("reading" : Str) == ("__debug__" : Str)) = false := by decide +kernel
theorem vo_twin_of_rest : VarOk (defScope s_twin_of) "rest" := by decide +kernel
theorem db_twin_of_summed : (("summed" : Str) == ("__debug__" : Str)) = false := by decide +kernel
theorem gl_twin_of_is_recipe : (defScope s_twin_of).names.lookup ("is_recipe" : Str) = some NameKind.globalImplicit := by decide +kernel
theorem vo_twin_of_twin : VarOk (defScope s_twin_of) "twin" := by decide +kernel
theorem db_twin_of_is_recipe : (("is_recipe" : Str) == ("__debug__" : Str)) = false := by decide +kernel
theorem ok_twin_of {f g1 g2 g3 g4 : Addr} {fd gd1 gd2 gd3 gd4 : FuncData} (T_twin_of : FnT K mg "twin_of" s_twin_of ["record", "k"] f fd)
    (T_rows_of : FnT K mg "rows_of" s_rows_of ["reads"] g1 gd1) (G_rows_of : FnOk P w K mg base CX0 1 g1 gd1 ["reads"] sp2Rows)
    (T_reading : FnT K mg "reading" s_reading ["row"] g2 gd2) (G_reading : FnOk P w K mg base CX0 1 g2 gd2 ["row"] sp2Reading)
    (T_summed : FnT K mg "summed" s_summed ["parts"] g3 gd3) (G_summed : FnOk P w K mg base CX0 5 g3 gd3 ["parts"] (sp2Summed 4))
    (T_is_recipe : FnT K mg "is_recipe" s_is_recipe ["thing"] g4 gd4) (G_is_recipe : FnOk P w K mg base CX0 4 g4 gd4 ["thing"] (spIsRec K))
    (T : Blt mg) : FnOk P w K mg base CX0 6 f fd ["record", "k"] sp2Twin := by
  refine T_twin_of.F.okQ sc_twin_of (fun vs H Q E h => ?_) (fun cdv A outer s H vs Q E hr h => ?_)
  · obtain ⟨a, k, as, ps, wo, rfl, _⟩ := h
    rfl
  obtain ⟨a, j, as, ps, wo, rfl, ⟨v, l, ea, el, hR⟩, hn, hk1, hnd, hgn, q⟩ := h
  refine ⟨_, (qss_cons (qs_set (i := 2) sc_twin_of.nd rfl lo_twin_of_reads (qe_ix qix_tup (qe_var 0 vo_twin_of_record) qe_int))
    (qss_cons (qs_if (qt_not (qt_chain qop_le qop_lt qe_int (qe_var 1 vo_twin_of_k) (qe_callB qc_len_seq gl_twin_of_len T.b_len bt_len (qa_N (qe_var 2 vo_twin_of_reads) qa_nil) nn_twin_of_len db_twin_of_len))) (qss_one qs_never) qss_nil)
    (qss_cons (qs_if (qt_cmp qop_lt (qe_callB qc_lenT gl_twin_of_len T.b_len bt_len (qa_F (qe_callTy (qc_setT rfl) gl_twin_of_set T.b_set bt_set (qa_M (qe_comp rfl (n := 1) (fr := []) (N := ["read"]) (cs_mk (scX := defScope s_twin_of) (NX := ["record", "k", "reads", "rows", "rest", "twin"]) rfl rfl (by decide +kernel)) (qi_list (qe_var 2 vo_twin_of_reads)) (fun _ _ _ _ _ => (qgx (i := 0) (show List.Nodup (α := Str) ["read"] by decide) (locC (by decide +kernel)))) (fun _ _ _ _ _ => qi_nil) (fun _ _ _ _ _ => (qe_ix (qix_tupK (K := K) rfl) (qe_var 0 (VarC.ok (by decide +kernel))) qe_int))) qa_nil) nn_twin_of_set db_twin_of_set) qa_nil) nn_twin_of_len db_twin_of_len) (qe_callB qc_len_seq gl_twin_of_len T.b_len bt_len (qa_N (qe_var 2 vo_twin_of_reads) qa_nil) nn_twin_of_len db_twin_of_len) (nomarkQ _)) (qss_one qs_never) qss_nil)
    (qss_cons (qs_set (i := 3) sc_twin_of.nd rfl lo_twin_of_rows (qe_op qop_cat (qe_call (G_rows_of.mono (by omega)) hr gl_twin_of_rows_of T_rows_of.m T_rows_of.F.kp T_rows_of.b .nil pass0 (qa_S (qe_slice qsl_list (qe_var 2 vo_twin_of_reads) qo_none (qo_some (qe_op qop_add (qe_var 1 vo_twin_of_k) qe_int))) qa_nil) db_twin_of_rows_of) (qe_call (G_rows_of.mono (by omega)) hr gl_twin_of_rows_of T_rows_of.m T_rows_of.F.kp T_rows_of.b .nil pass0 (qa_S (qe_slice qsl_list (qe_var 2 vo_twin_of_reads) (qo_some (qe_op qop_add (qe_var 1 vo_twin_of_k) qe_int)) qo_none) qa_nil) db_twin_of_rows_of)))
    (qss_cons (qs_set (i := 4) sc_twin_of.nd rfl lo_twin_of_rest (qe_op qop_sub (qe_ix qix_tup (qe_var 0 vo_twin_of_record) qe_int) (qe_callB (qc_sumG rfl) gl_twin_of_sum T.b_sum bt_sum (qa_M (qe_comp rfl (n := 1) (fr := []) (N := ["row"]) (cs_mk (scX := defScope s_twin_of) (NX := ["record", "k", "reads", "rows", "rest", "twin"]) rfl rfl (by decide +kernel)) (qi_list (qe_var 3 vo_twin_of_rows)) (fun _ _ _ _ _ => (qgx (i := 0) (show List.Nodup (α := Str) ["row"] by decide) (locC (by decide +kernel)))) (fun _ _ _ _ _ => qi_nil) (fun _ _ _ _ _ => (qe_ix (qix_tupK (K := K) rfl) (qe_ix (qix_listK (K := K) rfl) (qe_var 0 (VarC.ok (by decide +kernel))) (qe_un qun_neg qe_int)) qe_int))) qa_nil) nn_twin_of_sum db_twin_of_sum)))
    (qss_cons (qs_set (i := 5) sc_twin_of.nd rfl lo_twin_of_twin (qe_call (G_summed.mono (by omega)) hr gl_twin_of_summed T_summed.m T_summed.F.kp T_summed.b .nil pass0 (qa_B (qe_op qop_cat (qe_comp rfl (n := 1) (fr := []) (N := ["row"]) (cs_mk (scX := defScope s_twin_of) (NX := ["record", "k", "reads", "rows", "rest", "twin"]) rfl rfl (by decide +kernel)) (qi_list (qe_var 3 vo_twin_of_rows)) (fun _ _ _ _ _ => (qgx (i := 0) (show List.Nodup (α := Str) ["row"] by decide) (locC (by decide +kernel)))) (fun _ _ _ _ _ => qi_nil) (fun _ _ _ _ _ => (qe_call (G_reading.mono (by omega)) hr (glC (by decide +kernel)) T_reading.m T_reading.F.kp T_reading.b .nil pass0 (qa_N (qe_var 0 (VarC.ok (by decide +kernel))) qa_nil) db_twin_of_reading))) (qe_lst (qa_T (qe_tup (qa_C qe_str (qa_N (qe_var 4 vo_twin_of_rest) qa_nil))) qa_nil))) qa_nil) db_twin_of_summed))
    (qss_cons (qs_if (qt_not (qt_val (qe_call (G_is_recipe.mono (by omega)) hr gl_twin_of_is_recipe T_is_recipe.m T_is_recipe.F.kp T_is_recipe.b .nil pass0 (qa_N (qe_var 5 vo_twin_of_twin) qa_nil) db_twin_of_is_recipe))) (qss_one qs_never) qss_nil)
    (qss_one (qs_ret (qe_var 5 vo_twin_of_twin)))))))))), ?_⟩
  have hl := hR.length
  have hlm : (as.map V.ref).length = as.length := List.length_map _
  have ata : atI [v, .ref l, .int wo] 1 = some (.ref l) := atI_nat (j := 1) rfl
  have atw : atI [v, .ref l, .int wo] 2 = some (.int wo) := atI_nat (j := 2) rfl
  walk_at "vs"
  rw [decide_eq_true (show (j : Int) < (((as.map V.ref).length : Nat) : Int) by rw [hlm]; omega)]
  walk_at "vs"
  intro D hD
  refine comp_list (xs := as.map V.ref) (fun i σ' H' => (∃ t, σ' = [t]) ∧ Same H H' ∧ H' D = some (.lst (((ps.take i).map (·.1)).map V.str))) ?_ ?_ ?_ ?_
  · exact ⟨⟨none, rfl⟩, same_new _ hD, upd_same⟩
  · intro i σ' H' _ hP
    exact SqL.of (hP.2.1 _ _ el)
  · intro i x σ' H' hx hP
    obtain ⟨⟨t, rfl⟩, hs, eD⟩ := hP
    obtain ⟨b, hb, rfl⟩ := ref_at hx
    obtain ⟨pb, hpb, eb⟩ := hR.get i b hb
    have eb' := hs _ _ eb
    have atb : atI (rdV pb) 0 = some (.str pb.1) := atI_nat (j := 0) rfl
    have hz : (((ps.take i).map (·.1)).map V.str).length < sizeLine := by
      rw [List.length_map, List.length_map, List.length_take]; exact small1000 (by omega)
    walk_at "vs"
    refine ⟨⟨_, rfl⟩, same_updN _ hD hs, ?_⟩
    rw [upd_same, List.take_succ, hpb, List.map_append, List.map_append]
    rfl
  intro σ' H1 hP
  obtain ⟨_, s1, eD⟩ := hP
  rw [hlm, hl, List.take_length] at eD
  have hsl : (ps.map (·.1)).length ≤ 1000 := by rw [List.length_map]; omega
  have el1 := s1 _ _ el
  have ea1 := s1 _ _ ea
  walk_at "vs"
  intro p2 hp2
  rw [metS_nodup _ [] (by simpa using hnd), List.nil_append]
  have s2 := same_new (TxS (cxOf CX0 P w K mg base ["record", "k", "reads", "rows", "rest", "twin"] "twin_of" (defScope s_twin_of) f cdv A outer s H E).nox p2 (ps.map (·.1))) hp2
  have e2 : upd H1 p2 (TxS (cxOf CX0 P w K mg base ["record", "k", "reads", "rows", "rest", "twin"] "twin_of" (defScope s_twin_of) f cdv A outer s H E).nox p2 (ps.map (·.1))) p2 = some (TxS (cxOf CX0 P w K mg base ["record", "k", "reads", "rows", "rest", "twin"] "twin_of" (defScope s_twin_of) f cdv A outer s H E).nox p2 (ps.map (·.1))) := upd_same
  generalize upd H1 p2 (TxS (cxOf CX0 P w K mg base ["record", "k", "reads", "rows", "rest", "twin"] "twin_of" (defScope s_twin_of) f cdv A outer s H E).nox p2 (ps.map (·.1))) = H2 at *
  have el2 := s2 _ _ el1
  have ea2 := s2 _ _ ea1
  have s02 := s1.trans s2
  have hR2 := hR.same s02
  walk_at "vs"
  rw [decide_eq_false (show ¬ (((ps.map (·.1)).length : Nat) : Int) < (((as.map V.ref).length : Nat) : Int) by rw [List.length_map, List.length_map]; omega)]
  clear e2 eD hD hp2 el1 ea1 el ea
  walk_at "vs"
  intro p3 hp3
  rw [show ((j : Int) + 1) = ((j + 1 : Nat) : Int) from rfl, cut_to, ← List.map_take]
  have s3 := same_new (.lst ((as.take (j + 1)).map V.ref)) hp3
  have e3 : upd H2 p3 (.lst ((as.take (j + 1)).map V.ref)) p3 = some (.lst ((as.take (j + 1)).map V.ref)) := upd_same
  generalize upd H2 p3 (.lst ((as.take (j + 1)).map V.ref)) = H3 at *
  have lt1 : (ps.take (j + 1)).length = j + 1 := by rw [List.length_take]; omega
  have lt2 : (ps.drop (j + 1)).length = ps.length - (j + 1) := by rw [List.length_drop]
  refine ⟨p3, as.take (j + 1), ps.take (j + 1), rfl, e3, (hR2.same s3).take _, by omega, fun q1 qs1 H4 s4 e4 r4 => ?_⟩
  have el4 := s4 _ _ (s3 _ _ el2)
  have hR4 := (hR2.same s3).same s4
  walk_at "vs"
  intro p5 hp5
  rw [show ((j : Int) + 1) = ((j + 1 : Nat) : Int) from rfl, cut_from', ← List.map_drop]
  have s5 := same_new (.lst ((as.drop (j + 1)).map V.ref)) hp5
  have e5 : upd H4 p5 (.lst ((as.drop (j + 1)).map V.ref)) p5 = some (.lst ((as.drop (j + 1)).map V.ref)) := upd_same
  generalize upd H4 p5 (.lst ((as.drop (j + 1)).map V.ref)) = H5 at *
  refine ⟨p5, as.drop (j + 1), ps.drop (j + 1), rfl, e5, (hR4.same s5).drop _, by omega, fun q2 qs2 H6 s6 e6 r6 => ?_⟩
  have e46 := s6 _ _ (s5 _ _ e4)
  have r46 := (r4.same s5).same s6
  have hK : RowsAt H6 (qs1 ++ qs2) (rowsK ps j) := r46.app r6
  have hKl := hK.length
  have hRl := rowsK_len hn hk1
  have hzz : (qs1.map V.ref).length + (qs2.map V.ref).length ≤ sizeLine := by
    rw [List.length_map, List.length_map]
    rw [List.length_append] at hKl
    exact Nat.le_of_lt (small1000 (by omega))
  walk_at "vs"
  intro p7 hp7
  rw [← List.map_append]
  have s7 := same_new (.lst ((qs1 ++ qs2).map V.ref)) hp7
  have e7 : upd H6 p7 (.lst ((qs1 ++ qs2).map V.ref)) p7 = some (.lst ((qs1 ++ qs2).map V.ref)) := upd_same
  have r7 := hK.same s7
  have s07 := s02.trans (s3.trans (s4.trans (s5.trans (s6.trans s7))))
  have ea7 := (s3.trans (s4.trans (s5.trans (s6.trans s7)))) _ _ ea2
  generalize upd H6 p7 (.lst ((qs1 ++ qs2).map V.ref)) = H7 at *
  generalize qs1 ++ qs2 = qs at *
  clear e46 hzz e6 r6 r46 hK s6 s5 e5 hp5 hR4 el4 e4 r4 s4 s3 e3 lt1 lt2 hp3 hR2 s02 el2 ea2 s1 s2 hp7 s7
  walk_at "vs"
  intro D2 hD2
  have hlq : (qs.map V.ref).length = qs.length := List.length_map _
  refine comp_list (xs := qs.map V.ref) (fun i σ' H' => (∃ t, σ' = [t]) ∧ Same H7 H' ∧ H' D2 = some (.lst ((((rowsK ps j).take i).map lastV).map V.int))) ?_ ?_ ?_ ?_
  · exact ⟨⟨none, rfl⟩, same_new _ hD2, upd_same⟩
  · intro i σ' H' _ hP
    exact SqL.of (hP.2.1 _ _ e7)
  · intro i x σ' H' hx hP
    obtain ⟨⟨t, rfl⟩, hs, eD⟩ := hP
    have hi : i < (qs.map V.ref).length := (List.getElem?_eq_some_iff.mp hx).1
    obtain ⟨b, hb, rfl⟩ := ref_at hx
    obtain ⟨bs, row, hrow, eb, hRb⟩ := (r7.same hs).get i b hb
    obtain ⟨hr0, hr3⟩ := rowsK_row ps j row (List.mem_of_getElem? hrow)
    have hlb := hRb.length
    have hr1 : 1 ≤ row.length := by
      cases row with
      | nil => exact absurd rfl hr0
      | cons _ _ => simp
    have hbn : bs[bs.length - 1]? = some bs[bs.length - 1] := List.getElem?_eq_getElem (by omega)
    obtain ⟨pb, hpb, epb⟩ := hRb.get _ _ hbn
    have hlv : lastV row = pb.2 := by
      unfold lastV
      rw [List.getLast?_eq_getElem?, ← hlb, hpb]
    have atl : atI (bs.map V.ref) (-1) = some (.ref bs[bs.length - 1]) := by
      have : atI (bs.map V.ref) (-1) = (bs.map V.ref)[(bs.map V.ref).length - 1]? := atI_m1 (by rw [List.length_map]; omega)
      rw [this, List.getElem?_map, List.length_map, hbn]; rfl
    have atb : atI (rdV pb) 1 = some (.int pb.2) := atI_nat (j := 1) rfl
    have hz : ((((rowsK ps j).take i).map lastV).map V.int).length < sizeLine := by
      rw [List.length_map, List.length_map]
      have := List.length_take_le i (rowsK ps j)
      exact small1000 (by omega)
    walk_at "vs"
    refine ⟨⟨_, rfl⟩, same_updN _ hD2 hs, ?_⟩
    rw [upd_same, List.take_add_one, hrow, List.map_append, List.map_append, ← hlv]; rfl
  intro σ'' H8 hP
  obtain ⟨_, s8, eN⟩ := hP
  rw [show (rowsK ps j).take (qs.map V.ref).length = rowsK ps j by rw [List.length_map, hKl]; exact List.take_length] at eN
  have ea8 := s8 _ _ ea7
  have e78 := s8 _ _ e7
  walk_at "vs"
  intro D3 hD3
  refine comp_list (xs := qs.map V.ref) (fun i σ' H' => (∃ t, σ' = [t]) ∧ Same H8 H' ∧ ∃ rs : List Addr, H' D3 = some (.lst (rs.map V.ref)) ∧ IsRs H' rs (((rowsK ps j).take i).map rowR)) ?_ ?_ ?_ ?_
  · exact ⟨⟨none, rfl⟩, same_new _ hD3, [], upd_same, .nil⟩
  · intro i σ' H' _ hP
    exact SqL.of (hP.2.1 _ _ e78)
  · intro i x σ' H' hx hP
    obtain ⟨⟨t, rfl⟩, hs, rs, eD, hrs⟩ := hP
    have hi : i < (qs.map V.ref).length := (List.getElem?_eq_some_iff.mp hx).1
    obtain ⟨b, hb, rfl⟩ := ref_at hx
    obtain ⟨bs, row, hrow, eb, hRb⟩ := (r7.same (s8.trans hs)).get i b hb
    obtain ⟨hr0, hr3⟩ := rowsK_row ps j row (List.mem_of_getElem? hrow)
    have hlr := hrs.length
    rw [List.length_map] at hlr
    have hz : (rs.map V.ref).length < sizeLine := by
      rw [List.length_map, hlr]
      have := List.length_take_le i (rowsK ps j)
      exact small1000 (by omega)
    refine ⟨_, rfl, b, bs, row, rfl, eb, hRb, hr0, fun x H9 s9 R9 => ⟨_, s9 _ _ eD, hz, ⟨_, rfl⟩, same_updN _ hD3 (hs.trans s9), rs ++ [x], by rw [upd_same, List.map_append]; rfl, ?_⟩⟩
    have tp : Tups H9 (upd H9 D3 (.lst (rs.map V.ref ++ [V.ref x]))) := tups_set (.lst (rs.map V.ref ++ [V.ref x])) (s9 _ _ eD)
    rw [List.take_add_one, hrow, List.map_append]
    exact IsRs.snoc (R9.tups tp) ((hrs.same s9).tups tp)
  intro σ3 H9 hP
  obtain ⟨_, s9, rs, eR, hrs⟩ := hP
  rw [show (rowsK ps j).take (qs.map V.ref).length = rowsK ps j by rw [List.length_map, hKl]; exact List.take_length] at hrs
  have hlr := hrs.length
  rw [List.length_map] at hlr
  walk_at "vs"
  intro p10 hp10
  walk_at "vs"
  intro p11 hp11
  have s10 := same_new (.tup [V.str "number", V.int (wo - ((rowsK ps j).map lastV).sum)]) hp10
  have s11 := same_new (.lst [V.ref p10]) hp11
  have R11 : IsR (upd (upd H9 p10 (.tup [V.str "number", V.int (wo - ((rowsK ps j).map lastV).sum)])) p11 (.lst [V.ref p10])) p10 (.num (restK ps j wo)) := .num (s11 _ _ upd_same)
  have e11 : upd (upd H9 p10 (.tup [V.str "number", V.int (wo - ((rowsK ps j).map lastV).sum)])) p11 (.lst [V.ref p10]) p11 = some (.lst [V.ref p10]) := upd_same
  have eR11 := (s10.trans s11) _ _ eR
  have hr11 := hrs.same (s10.trans s11)
  have s011 := s07.trans (s8.trans (s9.trans (s10.trans s11)))
  generalize upd (upd H9 p10 (.tup [V.str "number", V.int (wo - ((rowsK ps j).map lastV).sum)])) p11 (.lst [V.ref p10]) = H11 at *
  have hzz : (rs.map V.ref).length + [V.ref p10].length ≤ sizeLine := by rw [List.length_map]; exact Nat.le_of_lt (small1000 (by show rs.length + 1 ≤ _; omega))
  walk_at "vs"
  intro p12 hp12
  rw [show rs.map V.ref ++ [V.ref p10] = (rs ++ [p10]).map V.ref from by rw [List.map_append]; rfl]
  have s12 := same_new (.lst ((rs ++ [p10]).map V.ref)) hp12
  have e12 : upd H11 p12 (.lst ((rs ++ [p10]).map V.ref)) p12 = some (.lst ((rs ++ [p10]).map V.ref)) := upd_same
  have P12 : IsRs (upd H11 p12 (.lst ((rs ++ [p10]).map V.ref))) (rs ++ [p10]) ((rowsK ps j).map rowR ++ [.num (restK ps j wo)]) := IsRs.snoc (R11.same s12) (hr11.same s12)
  generalize upd H11 p12 (.lst ((rs ++ [p10]).map V.ref)) = H12 at *
  have hl12 : ((rowsK ps j).map rowR ++ [R.num (restK ps j wo)]).length = (rowsK ps j).length + 1 := by rw [List.length_append, List.length_map]; rfl
  refine ⟨p12, rs ++ [p10], _, rfl, e12, P12, by omega, by omega, by omega, fun b H13 s13 R13 => ?_⟩
  obtain ⟨tg, td, tn⟩ := twin_part (v := wo) hn hk1 hgn
  have R13 : IsR H13 b (twinR ps j wo) := R13
  have n100 := nodes100N tg (by omega) tn
  have ht := R13.isTh (K := K)
  have hsh := (twinR ps j wo).short (goodN_fine tg)
  walk_at "vs"
  intro H14 s14
  rw [n100]
  walk_at "vs"
  exact q b H14 (s011.trans (s12.trans (s13.trans s14))) (R13.same s14)
end

section
variable {P : Program} {w : World} {K : PySem.W.Frag} {mg : Str → Option Value} {base : Heap}
noncomputable abbrev s_law_cell_at : Stmt := top 23
theorem sc_law_cell_at : FnScope ["script", "k"] ["script", "k"] (defScope s_law_cell_at) := ⟨rfl, rfl, rfl, by decide +kernel, rfl, by decide +kernel, by decide +kernel⟩
theorem vo_law_cell_at_k : VarOk (defScope s_law_cell_at) "k" := by decide +kernel
theorem gl_law_cell_at_len : (defScope s_law_cell_at).names.lookup ("len" : Str) = some NameKind.globalImplicit := by decide +kernel
theorem vo_law_cell_at_script : VarOk (defScope s_law_cell_at) "script" := by decide +kernel
theorem nn_law_cell_at_len : ("len" : Str) ≠ "__name__" := by decide +kernel
theorem db_law_cell_at_len : (("len" : Str) == ("__debug__" : Str)) = false := by decide +kernel
theorem ok_law_cell_at {f : Addr} {fd : FuncData} (T_law_cell_at : FnT K mg "_law_cell_at" s_law_cell_at ["script", "k"] f fd) (T : Blt mg) : FnOk P w K mg base CX0 1 f fd ["script", "k"] (spCell K) := by
  refine T_law_cell_at.F.okQ sc_law_cell_at (fun vs H Q E h => ?_) (fun cdv A outer s H vs Q E hr h => ?_)
  · obtain ⟨a, ns, k, rfl, _⟩ := h
    rfl
  obtain ⟨a, ns, k, rfl, hS, h0, q⟩ := h
  refine ⟨_, (qss_cons (qs_if (qt_cmp qop_lt (qe_var 1 vo_law_cell_at_k) (qe_callB qc_len_seq gl_law_cell_at_len T.b_len bt_len (qa_N (qe_var 0 vo_law_cell_at_script) qa_nil) nn_law_cell_at_len db_law_cell_at_len) (nomarkQ _)) (qss_one (qs_ret (qe_ix qix_list (qe_var 0 vo_law_cell_at_script) (qe_var 1 vo_law_cell_at_k)))) qss_nil)
    (qss_one (qs_ret qe_int))), ?_⟩
  walk_at "vs"
  refine ite2 (fun c1 => ?_) (fun c1 => ?_)
  · have c1' : k < ((ns.map V.int).length : Int) := by simpa using c1
    obtain ⟨v, j, hv, _⟩ := at_ok h0 c1'
    walk_at "vs"
    exact q _
  · walk_at "vs"
    exact q _
noncomputable abbrev s_law_pool : Stmt := top 24
theorem sc_law_pool : FnScope ["script", "k"] ["script", "k"] (defScope s_law_pool) := ⟨rfl, rfl, rfl, by decide +kernel, rfl, by decide +kernel, by decide +kernel⟩
theorem vo_law_pool_k : VarOk (defScope s_law_pool) "k" := by decide +kernel
theorem gl_law_pool__law_cell_at : (defScope s_law_pool).names.lookup ("_law_cell_at" : Str) = some NameKind.globalImplicit := by decide +kernel
theorem vo_law_pool_script : VarOk (defScope s_law_pool) "script" := by decide +kernel
theorem db_law_pool__law_cell_at : (("_law_cell_at" : Str) == ("__debug__" : Str)) = false := by decide +kernel
theorem ok_law_pool {f g : Addr} {fd gd : FuncData} (T_law_pool : FnT K mg "_law_pool" s_law_pool ["script", "k"] f fd) (T_law_cell_at : FnT K mg "_law_cell_at" s_law_cell_at ["script", "k"] g gd) (G_law_cell_at : FnOk P w K mg base CX0 1 g gd ["script", "k"] (spCell K)) (T : Blt mg) :
    FnOk P w K mg base CX0 2 f fd ["script", "k"] (spPool K) := by
  refine T_law_pool.F.okQ sc_law_pool (fun vs H Q E h => ?_) (fun cdv A outer s H vs Q E hr h => ?_)
  · obtain ⟨a, ns, k, rfl, _⟩ := h
    rfl
  obtain ⟨a, ns, k, rfl, hS, h0, h1, q⟩ := h
  refine ⟨_, (qss_one (qs_ret (qe_disp (qp_cons qe_str (qe_call (G_law_cell_at.mono (by omega)) hr gl_law_pool__law_cell_at T_law_cell_at.m T_law_cell_at.F.kp T_law_cell_at.b .nil pass0 (qa_N (qe_var 0 vo_law_pool_script) (qa_N (qe_var 1 vo_law_pool_k) qa_nil)) db_law_pool__law_cell_at) (qp_cons qe_str (qe_cmp qop_eq (qe_op qop_mod (qe_call (G_law_cell_at.mono (by omega)) hr gl_law_pool__law_cell_at T_law_cell_at.m T_law_cell_at.F.kp T_law_cell_at.b .nil pass0 (qa_N (qe_var 0 vo_law_pool_script) (qa_C qe_int qa_nil)) db_law_pool__law_cell_at) qe_int) qe_int (nomarkQ _)) (qp_cons qe_str (qe_op qop_add qe_int (qe_op qop_mul qe_int (qe_var 1 vo_law_pool_k))) qp_nil)))))), ?_⟩
  walk_at "vs"
  intro p hp
  have s1 := same_new (.dK []) hp
  have hS1 := SqL.same s1 hS
  have e1 : upd H p (.dK []) p = some (.dK []) := upd_same
  generalize upd H p (.dK []) = H1 at *
  walk_at "vs"
  intro n1
  walk_at "vs"
  intro n2
  walk_at "vs"
  refine ⟨poolD n1 (decide (V.int (n2 % 2) = V.int 1)) (3 + 5 * k), rfl, by show 3 ≤ 15; decide, ?_⟩
  have em : mergeK [] (poolD n1 (decide (V.int (n2 % 2) = V.int 1)) (3 + 5 * k)) = poolD n1 (decide (V.int (n2 % 2) = V.int 1)) (3 + 5 * k) := rfl
  rw [em]
  exact q p _ (same_updN _ hp s1) hp ⟨_, _, _, upd_same, by omega, by omega⟩
noncomputable abbrev s_law_take : Stmt := top 25
theorem sc_law_take : FnScope ["pool", "many", "rest"] ["pool", "many"] (defScope s_law_take) := ⟨rfl, rfl, rfl, by decide +kernel, rfl, by decide +kernel, by decide +kernel⟩
theorem lo_law_take_rest : Loc (defScope s_law_take) "rest" := by decide +kernel
theorem vo_law_take_pool : VarOk (defScope s_law_take) "pool" := by decide +kernel
theorem vo_law_take_rest : VarOk (defScope s_law_take) "rest" := by decide +kernel
theorem vo_law_take_many : VarOk (defScope s_law_take) "many" := by decide +kernel
theorem ok_law_take {f : Addr} {fd : FuncData} (T_law_take : FnT K mg "_law_take" s_law_take ["pool", "many"] f fd) (T : Blt mg) : FnOk P w K mg base CX0 1 f fd ["pool", "many"] spTake := by
  refine T_law_take.F.okQ sc_law_take (fun vs H Q E h => ?_) (fun cdv A outer s H vs Q E hr h => ?_)
  · obtain ⟨p, c, many, rfl, _⟩ := h
    rfl
  obtain ⟨p, c, many, rfl, ⟨rest, mixed, count, e, h0, h1⟩, hc, hm, hlg, q⟩ := h
  refine ⟨_, (qss_cons (qs_set (i := 2) sc_law_take.nd rfl lo_law_take_rest (qe_dget (hu_of hr) (qe_var 0 vo_law_take_pool) qe_str))
    (qss_cons (qs_if (qt_not (qt_val (qe_dget (hu_of hr) (qe_var 0 vo_law_take_pool) qe_str))) (qss_cons (qs_dput (hu_of hr) (qe_var 0 vo_law_take_pool) qe_str (qe_op qop_fdiv (qe_var 2 vo_law_take_rest) (qe_var 1 vo_law_take_many)))
    (qss_one (qs_ret (qe_op qop_mod (qe_var 2 vo_law_take_rest) (qe_var 1 vo_law_take_many))))) qss_nil)
    (qss_cons (qs_dput (hu_of hr) (qe_var 0 vo_law_take_pool) qe_str (qe_op qop_add (qe_dget (hu_of hr) (qe_var 0 vo_law_take_pool) qe_str) qe_int))
    (qss_cons (qs_set (i := 2) sc_law_take.nd rfl lo_law_take_rest (qe_op qop_add (qe_op qop_mod (qe_var 2 vo_law_take_rest) qe_int) (qe_op qop_mul qe_int (qe_dget (hu_of hr) (qe_var 0 vo_law_take_pool) qe_str))))
    (qss_cons (qs_set (i := 2) sc_law_take.nd rfl lo_law_take_rest (qe_op qop_mod (qe_op qop_mul (qe_var 2 vo_law_take_rest) (qe_op qop_add (qe_var 2 vo_law_take_rest) qe_int)) qe_int))
    (qss_cons (qs_set (i := 2) sc_law_take.nd rfl lo_law_take_rest (qe_op qop_mod (qe_op qop_mul (qe_var 2 vo_law_take_rest) (qe_var 2 vo_law_take_rest)) qe_int))
    (qss_cons (qs_dput (hu_of hr) (qe_var 0 vo_law_take_pool) qe_str (qe_var 2 vo_law_take_rest))
    (qss_one (qs_ret (qe_op qop_mod (qe_op qop_fdiv (qe_var 2 vo_law_take_rest) qe_int) (qe_var 1 vo_law_take_many))))))))))), ?_⟩
  have d1 := pool_rest e
  have d2 := pool_mixed e
  have d3 := pool_count e
  walk_at "vs"
  cases mixed with
  | false =>
    walk_at "vs"
    refine And.intro (pool_put_rest e _) ?_
    walk_at "vs"
    exact q _ _ (Int.emod_nonneg _ (by omega)) (Int.emod_lt_of_pos _ hm) (But.set _ (by simp)) ⟨_, _, _, upd_same, h0, by omega⟩
  | true =>
    walk_at "vs"
    refine And.intro (pool_put_count e _) ?_
    have e2 : upd H p (.dK (poolD rest true (count + 1))) p = some (.dK (poolD rest true (count + 1))) := upd_same
    have b2 : But [p] H (upd H p (.dK (poolD rest true (count + 1)))) := But.set _ (by simp)
    clear d1 d2 d3
    generalize upd H p (.dK (poolD rest true (count + 1))) = H2 at *
    have d1 := pool_rest e2
    have d3 := pool_count e2
    have r0 := Int.emod_nonneg rest (show (1000000000163 : Int) ≠ 0 by decide)
    have r1 := Int.emod_lt_of_pos rest (show (0 : Int) < 1000000000163 by decide)
    have m1 : CMul 70001 (count + 1) := .inl ⟨by decide, by decide⟩
    have m2 : CMul (rest % 1000000000163 + 70001 * (count + 1)) (rest % 1000000000163 + 70001 * (count + 1) + 29) := .inl ⟨by omega, by omega⟩
    have z1 := Int.emod_nonneg ((rest % 1000000000163 + 70001 * (count + 1)) * (rest % 1000000000163 + 70001 * (count + 1) + 29)) (show (1000000000193 : Int) ≠ 0 by decide)
    have z2 := Int.emod_lt_of_pos ((rest % 1000000000163 + 70001 * (count + 1)) * (rest % 1000000000163 + 70001 * (count + 1) + 29)) (show (0 : Int) < 1000000000193 by decide)
    walk_at "vs"
    refine And.intro (pool_put_rest e2 _) ?_
    walk_at "vs"
    exact q _ _ (Int.emod_nonneg _ (by omega)) (Int.emod_lt_of_pos _ hm) (b2.trans (But.set _ (by simp))) ⟨_, _, _, upd_same, by omega, by omega⟩
noncomputable abbrev s_law_name : Stmt := top 26
theorem sc_law_name : FnScope ["k", "letters"] ["k"] (defScope s_law_name) := ⟨rfl, rfl, rfl, by decide +kernel, rfl, by decide +kernel, by decide +kernel⟩
theorem lo_law_name_letters : Loc (defScope s_law_name) "letters" := by decide +kernel
theorem vo_law_name_letters : VarOk (defScope s_law_name) "letters" := by decide +kernel
theorem vo_law_name_k : VarOk (defScope s_law_name) "k" := by decide +kernel
theorem ok_law_name {f : Addr} {fd : FuncData} (T_law_name : FnT K mg "_law_name" s_law_name ["k"] f fd) (T : Blt mg) : FnOk P w K mg base CX0 1 f fd ["k"] spLaName := by
  refine T_law_name.F.okQ sc_law_name (fun vs H Q E h => ?_) (fun cdv A outer s H vs Q E hr h => ?_)
  · obtain ⟨k, rfl, _⟩ := h
    rfl
  obtain ⟨k, rfl, hk, q⟩ := h
  refine ⟨_, (qss_cons (qs_set (i := 1) sc_law_name.nd rfl lo_law_name_letters qe_str)
    (qss_one (qs_ret (qe_op qop_add_str (qe_ix qix_str (qe_var 1 vo_law_name_letters) (qe_op qop_mod (qe_var 0 vo_law_name_k) qe_int)) (qe_op qop_mul0 (qe_ix qix_str (qe_var 1 vo_law_name_letters) (qe_op qop_mod (qe_op qop_mul (qe_var 0 vo_law_name_k) qe_int) qe_int)) (qe_op qop_mod (qe_op qop_mul (qe_var 0 vo_law_name_k) qe_int) qe_int)))))), ?_⟩
  have l1 := ltr_at (n := (k : Int) % 26) (i := k % 26) (by omega) (by omega)
  have l2 := ltr_at (n := (k : Int) * 7 % 26) (i := k * 7 % 26) (by omega) (by omega)
  have zl : ("abcdefghijklmnopqrstuvwxyz" : Str).length ≤ sizeLine := by decide +kernel
  have m1 : CMul (k : Int) 7 := .inr ⟨by decide, by decide⟩
  have m2 : CMul (k : Int) 5 := .inr ⟨by decide, by decide⟩
  have n0 : 0 ≤ (k : Int) * 5 % 8 := by omega
  have n1 : (k : Int) * 5 % 8 ≤ 1000 := by omega
  have o1 : (⟨#[k * 7 % 26 + 97]⟩ : Str).length ≤ 1000 := by show 1 ≤ 1000; decide
  have en : ((k : Int) * 5 % 8).toNat = k * 5 % 8 := by omega
  have q' : Q (.str (ltr (k % 26) ++ repS (ltr (k * 7 % 26)) ((k : Int) * 5 % 8).toNat)) H := by rw [en]; exact q
  have zz : (⟨#[k % 26 + 97]⟩ : Str).length + (repS (⟨#[k * 7 % 26 + 97]⟩ : Str) ((k : Int) * 5 % 8).toNat).length ≤ sizeLine := by
    rw [rep_len, en, sizeLine_eq]
    show 1 + k * 5 % 8 * 1 ≤ _
    omega
  walk_at "vs"
  exact q'
end

section
variable {P : Program} {w : World} {K : PySem.W.Frag} {mg : Str → Option Value} {base : Heap}
noncomputable abbrev s_law_value : Stmt := top 31
theorem sc_law_value : FnScope ["house", "r", "state", "reads", "word", "one", "other"] ["house", "r", "state", "reads"] (defScope s_law_value) := ⟨rfl, rfl, rfl, by decide +kernel, rfl, by decide +kernel, by decide +kernel⟩
theorem lo_law_value_word : Loc (defScope s_law_value) "word" := by decide +kernel
theorem vo_law_value_r : VarOk (defScope s_law_value) "r" := by decide +kernel
theorem vo_law_value_word : VarOk (defScope s_law_value) "word" := by decide +kernel
theorem gl_law_value__law_look : (defScope s_law_value).names.lookup ("_law_look" : Str) = some NameKind.globalImplicit := by decide +kernel
theorem vo_law_value_reads : VarOk (defScope s_law_value) "reads" := by decide +kernel
theorem vo_law_value_state : VarOk (defScope s_law_value) "state" := by decide +kernel
theorem vo_law_value_house : VarOk (defScope s_law_value) "house" := by decide +kernel
theorem db_law_value__law_look : (("_law_look" : Str) == ("__debug__" : Str)) = false := by decide +kernel
theorem lo_law_value_one : Loc (defScope s_law_value) "one" := by decide +kernel
theorem gl_law_value__law_value : (defScope s_law_value).names.lookup ("_law_value" : Str) = some NameKind.globalImplicit := by decide +kernel
theorem db_law_value__law_value : (("_law_value" : Str) == ("__debug__" : Str)) = false := by decide +kernel
theorem vo_law_value_one : VarOk (defScope s_law_value) "one" := by decide +kernel
theorem gl_law_value_len : (defScope s_law_value).names.lookup ("len" : Str) = some NameKind.globalImplicit := by decide +kernel
theorem nn_law_value_len : ("len" : Str) ≠ "__name__" := by decide +kernel
theorem db_law_value_len : (("len" : Str) == ("__debug__" : Str)) = false := by decide +kernel
theorem gl_law_value_int : (defScope s_law_value).names.lookup ("int" : Str) = some NameKind.globalImplicit := by decide +kernel
theorem nn_law_value_int : ("int" : Str) ≠ "__name__" := by decide +kernel
theorem db_law_value_int : (("int" : Str) == ("__debug__" : Str)) = false := by decide +kernel
theorem lo_law_value_other : Loc (defScope s_law_value) "other" := by decide +kernel
theorem vo_law_value_other : VarOk (defScope s_law_value) "other" := by decide +kernel
theorem gl_law_value_max : (defScope s_law_value).names.lookup ("max" : Str) = some NameKind.globalImplicit := by decide +kernel
theorem nn_law_value_max : ("max" : Str) ≠ "__name__" := by decide +kernel
theorem db_law_value_max : (("max" : Str) == ("__debug__" : Str)) = false := by decide +kernel
noncomputable abbrev s_law_settled : Stmt := top 33
theorem sc_law_settled : FnScope ["house", "name", "state", "worths", "records", "reads", "worth"] ["house", "name", "state"] (defScope s_law_settled) := ⟨rfl, rfl, rfl, by decide +kernel, rfl, by decide +kernel, by decide +kernel⟩
theorem vo_law_settled_state : VarOk (defScope s_law_settled) "state" := by decide +kernel
theorem lo_law_settled_records : Loc (defScope s_law_settled) "records" := by decide +kernel
theorem lo_law_settled_worths : Loc (defScope s_law_settled) "worths" := by decide +kernel
theorem vo_law_settled_name : VarOk (defScope s_law_settled) "name" := by decide +kernel
theorem vo_law_settled_house : VarOk (defScope s_law_settled) "house" := by decide +kernel
theorem vo_law_settled_worths : VarOk (defScope s_law_settled) "worths" := by decide +kernel
theorem lo_law_settled_reads : Loc (defScope s_law_settled) "reads" := by decide +kernel
theorem lo_law_settled_worth : Loc (defScope s_law_settled) "worth" := by decide +kernel
theorem gl_law_settled__law_value : (defScope s_law_settled).names.lookup ("_law_value" : Str) = some NameKind.globalImplicit := by decide +kernel
theorem vo_law_settled_reads : VarOk (defScope s_law_settled) "reads" := by decide +kernel
theorem db_law_settled__law_value : (("_law_value" : Str) == ("__debug__" : Str)) = false := by decide +kernel
theorem vo_law_settled_records : VarOk (defScope s_law_settled) "records" := by decide +kernel
theorem vo_law_settled_worth : VarOk (defScope s_law_settled) "worth" := by decide +kernel
theorem ok_law_settled {f g : Addr} {fd gd : FuncData} (T_law_settled : FnT K mg "_law_settled" s_law_settled ["house", "name", "state"] f fd) (T_law_value : FnT K mg "_law_value" s_law_value ["house", "r", "state", "reads"] g gd) (T : Blt mg) :
    FnOk P w K mg base CX0 2 f fd ["house", "name", "state"] sp37Set := by
  have G_law_value : FnOk P w K mg base CX0 1 g gd ["house", "r", "state", "reads"] spNo := never fun _ _ _ _ z => z
  refine T_law_settled.F.okQ sc_law_settled (fun vs H Q E h => ?_) (fun cdv A outer s H vs Q E hr h => ?_)
  · obtain ⟨h, nd, cd, st, wd, rd, nm, ns, x, rfl, _⟩ := h
    rfl
  obtain ⟨h, nd, cd, st, wd, rd, nm, ns, x, rfl, a, hx, q⟩ := h
  refine ⟨_, (qss_cons (qs_asg (qe_var 2 vo_law_settled_state) (qg_lst rfl (qgs_cons (qg_name (i := 3) sc_law_settled.nd rfl lo_law_settled_worths) (qgs_cons (qg_name (i := 4) sc_law_settled.nd rfl lo_law_settled_records) qgs_nil))))
    (qss_cons (qs_if (qt_w (qw_and (qt_dnotin (hu_of hr) (qe_var 1 vo_law_settled_name) (qe_var 3 vo_law_settled_worths)) (qw_and1 (qt_din (hu_of hr) (qe_var 1 vo_law_settled_name) (qe_ix qix_tup (qe_var 0 vo_law_settled_house) qe_int))))) (qss_one (qs_dput (hu_of hr) (qe_var 3 vo_law_settled_worths) (qe_var 1 vo_law_settled_name) (qe_dget (hu_of hr) (qe_ix qix_tup (qe_var 0 vo_law_settled_house) qe_int) (qe_var 1 vo_law_settled_name)))) qss_nil)
    (qss_cons (qs_if (qt_dnotin (hu_of hr) (qe_var 1 vo_law_settled_name) (qe_var 3 vo_law_settled_worths)) (qss_cons (qs_set (i := 5) sc_law_settled.nd rfl lo_law_settled_reads (qe_lst qa_nil))
    (qss_cons (qs_set (i := 6) sc_law_settled.nd rfl lo_law_settled_worth (qe_call (G_law_value.mono (by omega)) hr gl_law_settled__law_value T_law_value.m T_law_value.F.kp T_law_value.b .nil pass0 (qa_N (qe_var 0 vo_law_settled_house) (qa_S (qe_dget (hu_of hr) (qe_ix qix_tup (qe_var 0 vo_law_settled_house) qe_int) (qe_var 1 vo_law_settled_name)) (qa_N (qe_var 2 vo_law_settled_state) (qa_N (qe_var 5 vo_law_settled_reads) qa_nil)))) db_law_settled__law_value))
    (qss_cons (qs_dput (hu_of hr) (qe_var 4 vo_law_settled_records) (qe_var 1 vo_law_settled_name) (qe_tup (qa_S (qe_dget (hu_of hr) (qe_ix qix_tup (qe_var 0 vo_law_settled_house) qe_int) (qe_var 1 vo_law_settled_name)) (qa_N (qe_var 5 vo_law_settled_reads) (qa_N (qe_var 6 vo_law_settled_worth) qa_nil)))))
    (qss_one (qs_dput (hu_of hr) (qe_var 3 vo_law_settled_worths) (qe_var 1 vo_law_settled_name) (qe_var 6 vo_law_settled_worth)))))) qss_nil)
    (qss_one (qs_ret (qe_dget (hu_of hr) (qe_var 3 vo_law_settled_worths) (qe_var 1 vo_law_settled_name))))))), ?_⟩
  have eh := a.eh
  have es := a.es
  obtain ⟨kvn, en, hn⟩ := a.en
  obtain ⟨kw, ws, ew, k1, k2, k3⟩ := a.ew
  have hkl := a.wl ew
  have dg : DGet H nd (.str x) (some (.int (nm x))) := by rw [← hn x hx]; exact DGet.k (k := .inr x) en
  have hs0 : atI [V.ref nd, .ref cd] 0 = some (.ref nd) := rfl
  by_cases hw : x ∈ ws
  · have dw : DGet H wd (.str x) (some (.int (nm x))) := by rw [← k3 x hw]; exact DGet.k (k := .inr x) ew
    walk_at "vs"
    exact q H (But.refl _ _) a
  · have hv : valV kw (.inr x) = none := k1.none.mpr hw
    have dw : DGet H wd (.str x) none := by rw [← hv]; exact DGet.k (k := .inr x) ew
    have dp : DPut H wd (.str x) (.int (nm x)) (upd H wd (.dK (putK kw (.inr x) (.int (nm x))))) := DPut.k (k := .inr x) ew (small1000 (by omega))
    have dw1 : DGet (upd H wd (.dK (putK kw (.inr x) (.int (nm x))))) wd (.str x) (some (.int (nm x))) := by
      have := DGet.k (H := upd H wd (.dK (putK kw (.inr x) (.int (nm x))))) (a := wd) (k := .inr x) upd_same
      rw [valV_put, if_pos rfl] at this
      exact this
    walk_at "vs"
    exact q _ (But.set _ (by simp)) (a.put ew hx hv)
noncomputable abbrev s_law_look : Stmt := top 32
theorem sc_law_look : FnScope ["house", "name", "state", "reads", "worth"] ["house", "name", "state", "reads"] (defScope s_law_look) := ⟨rfl, rfl, rfl, by decide +kernel, rfl, by decide +kernel, by decide +kernel⟩
theorem lo_law_look_worth : Loc (defScope s_law_look) "worth" := by decide +kernel
theorem gl_law_look__law_settled : (defScope s_law_look).names.lookup ("_law_settled" : Str) = some NameKind.globalImplicit := by decide +kernel
theorem vo_law_look_state : VarOk (defScope s_law_look) "state" := by decide +kernel
theorem vo_law_look_name : VarOk (defScope s_law_look) "name" := by decide +kernel
theorem vo_law_look_house : VarOk (defScope s_law_look) "house" := by decide +kernel
theorem db_law_look__law_settled : (("_law_settled" : Str) == ("__debug__" : Str)) = false := by decide +kernel
theorem vo_law_look_worth : VarOk (defScope s_law_look) "worth" := by decide +kernel
theorem vo_law_look_reads : VarOk (defScope s_law_look) "reads" := by decide +kernel
theorem ok_law_look {f g : Addr} {fd gd : FuncData} (T_law_look : FnT K mg "_law_look" s_law_look ["house", "name", "state", "reads"] f fd) (T_law_settled : FnT K mg "_law_settled" s_law_settled ["house", "name", "state"] g gd) (G_law_settled : FnOk P w K mg base CX0 2 g gd ["house", "name", "state"] sp37Set) (T : Blt mg) :
    FnOk P w K mg base CX0 3 f fd ["house", "name", "state", "reads"] sp37Lk := by
  refine T_law_look.F.okQ sc_law_look (fun vs H Q E h => ?_) (fun cdv A outer s H vs Q E hr h => ?_)
  · obtain ⟨h, nd, cd, st, wd, rd, rl, nm, ns, x, as, ps, rfl, _⟩ := h
    rfl
  obtain ⟨h, nd, cd, st, wd, rd, rl, nm, ns, x, as, ps, rfl, a, hx, el, hRs, hpl, hgn, hst, q⟩ := h
  refine ⟨_, (qss_cons (qs_set (i := 4) sc_law_look.nd rfl lo_law_look_worth (qe_call (G_law_settled.mono (by omega)) hr gl_law_look__law_settled T_law_settled.m T_law_settled.F.kp T_law_settled.b .nil pass0 (qa_N (qe_var 0 vo_law_look_house) (qa_N (qe_var 1 vo_law_look_name) (qa_N (qe_var 2 vo_law_look_state) qa_nil))) db_law_look__law_settled))
    (qss_cons (qs_if (qt_cmp (qop_notInP hr.units) (qe_tup (qa_N (qe_var 1 vo_law_look_name) (qa_N (qe_var 4 vo_law_look_worth) qa_nil))) (qe_var 3 vo_law_look_reads) rfl) (qss_one (qs_expr (qe_bm PySem.F.plainAttrs_list PySem.F.slot_list_append PySem.F.type_list_append qmt_append (qe_var 3 vo_law_look_reads) (qa_T (qe_tup (qa_N (qe_var 1 vo_law_look_name) (qa_N (qe_var 4 vo_law_look_worth) qa_nil))) qa_nil)))) qss_nil)
    (qss_one (qs_ret (qe_var 4 vo_law_look_worth))))), ?_⟩
  obtain ⟨kw, ws, ew, _⟩ := a.ew
  have hlw : rl ∉ [wd] := fun z => by
    have z : rl = wd := by simpa using z
    rw [z, ew] at el; cases el
  walk_at "vs"
  intro H1 b1 a1
  have t1 : Tups H H1 := fun y xs z => b1 y _ (fun w' => by
    have w' : y = wd := by simpa using w'
    rw [w', ew] at z; cases z) z
  have el1 := b1 _ _ hlw el
  have hRs1 := hRs.tups t1
  walk_at "vs"
  intro pt hpt
  have s2 := same_new (.tup [.str x, .int (nm x)]) hpt
  have ept : upd H1 pt (.tup [.str x, .int (nm x)]) pt = some (.tup (rdV (x, nm x))) := upd_same
  have el2 := s2 _ _ el1
  have hRs2 := hRs1.same s2
  have a2 := a1.same s2
  have b2 : But [wd, rl] H (upd H1 pt (.tup [.str x, .int (nm x)])) := (b1.mono (by simp)).trans (But.of_same s2)
  generalize upd H1 pt (.tup [.str x, .int (nm x)]) = H2 at *
  refine ⟨_, rfl, pt, rl, as, ps, (x, nm x), rfl, rfl, ept, SqL.of el2, hRs2, hgn, a.gn x hx, ?_⟩
  by_cases hm : (x, nm x) ∈ ps
  · rw [decide_eq_true hm]
    walk_at "vs"
    exact q as H2 b2 a2 el2 (by unfold addR; rw [if_pos hm]; exact hRs2)
  · rw [decide_eq_false hm]
    have hz : (as.map V.ref).length < sizeLine := by
      rw [List.length_map, hRs.length]
      exact small1000 (by omega)
    walk_at "vs"
    intro p3 hp3
    have s3 := same_new (.tup [.str x, .int (nm x)]) hp3
    have ep3 : upd H2 p3 (.tup [.str x, .int (nm x)]) p3 = some (.tup (rdV (x, nm x))) := upd_same
    have el3 := s3 _ _ el2
    have hRs3 := hRs2.same s3
    have a3 := a2.same s3
    have b3 := b2.trans (But.of_same (S := [wd, rl]) s3)
    generalize upd H2 p3 (.tup [.str x, .int (nm x)]) = H3 at *
    walk_at "vs"
    have t4 : Tups H3 (upd H3 rl (.lst (as.map V.ref ++ [.ref p3]))) := fun y xs z => (upd_ne (fun w' => by rw [w', el3] at z; cases z)).trans z
    refine q (as ++ [p3]) _ (b3.trans (But.set _ (by simp))) (a3.set el3 hst) (by rw [upd_same, List.map_append]; rfl) ?_
    unfold addR
    rw [if_neg hm]
    exact IsRds.snoc (t4 _ _ ep3) (hRs3.tups t4)
theorem step_law_value {d : Nat} {f g : Addr} {fd gd : FuncData} (T_law_value : FnT K mg "_law_value" s_law_value ["house", "r", "state", "reads"] f fd) (T_law_look : FnT K mg "_law_look" s_law_look ["house", "name", "state", "reads"] g gd) (G_law_look : FnOk P w K mg base CX0 3 g gd ["house", "name", "state", "reads"] sp37Lk)
    (G_law_value : FnOk P w K mg base CX0 (3 + d) f fd ["house", "r", "state", "reads"] (sp37Vl d)) (T : Blt mg) : FnOk P w K mg base CX0 (3 + d + 1) f fd ["house", "r", "state", "reads"] (sp37Vl (d + 1)) := by
  refine T_law_value.F.okQ sc_law_value (fun vs H Q E h => ?_) (fun cdv A outer s H vs Q E hr h => ?_)
  · obtain ⟨h, nd, cd, st, wd, rd, rl, b, nm, ns, r, as, ps, rfl, _⟩ := h
    rfl
  obtain ⟨h, nd, cd, st, wd, rd, rl, b, nm, ns, r, as, ps, rfl, a, hR, hdp, hpl, el, hRs, hno, hgn, hst, q⟩ := h
  refine ⟨_, (qss_cons (qs_set (i := 4) sc_law_value.nd rfl lo_law_value_word (qe_ix qix_tup (qe_var 1 vo_law_value_r) qe_int))
    (qss_cons (qs_if (qt_cmp qop_eq (qe_var 4 vo_law_value_word) qe_str (nomarkQ _)) (qss_one (qs_ret (qe_ix qix_tup (qe_var 1 vo_law_value_r) qe_int))) qss_nil)
    (qss_cons (qs_if (qt_cmp qop_eq (qe_var 4 vo_law_value_word) qe_str (nomarkQ _)) (qss_one (qs_ret (qe_call (G_law_look.mono (by omega)) hr gl_law_value__law_look T_law_look.m T_law_look.F.kp T_law_look.b .nil pass0 (qa_N (qe_var 0 vo_law_value_house) (qa_S (qe_ix qix_tup (qe_var 1 vo_law_value_r) qe_int) (qa_N (qe_var 2 vo_law_value_state) (qa_N (qe_var 3 vo_law_value_reads) qa_nil)))) db_law_value__law_look))) qss_nil)
    (qss_cons (qs_set (i := 5) sc_law_value.nd rfl lo_law_value_one (qe_call (G_law_value.mono (by omega)) hr gl_law_value__law_value T_law_value.m T_law_value.F.kp T_law_value.b .nil pass0 (qa_N (qe_var 0 vo_law_value_house) (qa_S (qe_ix qix_tup (qe_var 1 vo_law_value_r) qe_int) (qa_N (qe_var 2 vo_law_value_state) (qa_N (qe_var 3 vo_law_value_reads) qa_nil)))) db_law_value__law_value))
    (qss_cons (qs_if (qt_cmp qop_eq (qe_var 4 vo_law_value_word) qe_str (nomarkQ _)) (qss_one (qs_ret (qe_call (G_law_look.mono (by omega)) hr gl_law_value__law_look T_law_look.m T_law_look.F.kp T_law_look.b .nil pass0 (qa_N (qe_var 0 vo_law_value_house) (qa_S (qe_ix qix_tup (qe_ix qix_tup (qe_var 1 vo_law_value_r) qe_int) (qe_op qop_mod (qe_var 5 vo_law_value_one) (qe_callB qc_len_seq gl_law_value_len T.b_len bt_len (qa_S (qe_ix qix_tup (qe_var 1 vo_law_value_r) qe_int) qa_nil) nn_law_value_len db_law_value_len))) (qa_N (qe_var 2 vo_law_value_state) (qa_N (qe_var 3 vo_law_value_reads) qa_nil)))) db_law_value__law_look))) qss_nil)
    (qss_cons (qs_if (qt_cmp qop_eq (qe_var 4 vo_law_value_word) qe_str (nomarkQ _)) (qss_one (qs_ret (qe_call (G_law_value.mono (by omega)) hr gl_law_value__law_value T_law_value.m T_law_value.F.kp T_law_value.b .nil pass0 (qa_N (qe_var 0 vo_law_value_house) (qa_S (qe_ix qix_tup (qe_var 1 vo_law_value_r) (qe_ix qix_list (qe_lst (qa_C qe_int (qa_C qe_int qa_nil))) (qe_callTy qc_intB gl_law_value_int T.b_int bt_int (qa_K (qe_cmp qop_gt (qe_var 5 vo_law_value_one) qe_int (nomarkQ _)) qa_nil) nn_law_value_int db_law_value_int))) (qa_N (qe_var 2 vo_law_value_state) (qa_N (qe_var 3 vo_law_value_reads) qa_nil)))) db_law_value__law_value))) qss_nil)
    (qss_cons (qs_set (i := 6) sc_law_value.nd rfl lo_law_value_other (qe_call (G_law_value.mono (by omega)) hr gl_law_value__law_value T_law_value.m T_law_value.F.kp T_law_value.b .nil pass0 (qa_N (qe_var 0 vo_law_value_house) (qa_S (qe_ix qix_tup (qe_var 1 vo_law_value_r) qe_int) (qa_N (qe_var 2 vo_law_value_state) (qa_N (qe_var 3 vo_law_value_reads) qa_nil)))) db_law_value__law_value))
    (qss_cons (qs_if (qt_cmp qop_eq (qe_var 4 vo_law_value_word) qe_str (nomarkQ _)) (qss_one (qs_ret (qe_op qop_mul (qe_var 5 vo_law_value_one) (qe_var 6 vo_law_value_other)))) qss_nil)
    (qss_cons (qs_if (qt_cmp qop_eq (qe_var 4 vo_law_value_word) qe_str (nomarkQ _)) (qss_one (qs_ret (qe_callB (qc_max2 rfl) gl_law_value_max T.b_max bt_max (qa_N (qe_var 5 vo_law_value_one) (qa_N (qe_var 6 vo_law_value_other) qa_nil)) nn_law_value_max db_law_value_max))) qss_nil)
    (qss_one (qs_ret (qe_op qop_add (qe_var 5 vo_law_value_one) (qe_ix qix_list (qe_lst (qa_N (qe_var 6 vo_law_value_other) (qa_B (qe_op qop_sub qe_int (qe_var 6 vo_law_value_other)) qa_nil))) (qe_callTy qc_intB gl_law_value_int T.b_int bt_int (qa_K (qe_cmp qop_eq (qe_var 4 vo_law_value_word) qe_str (nomarkQ _)) qa_nil) nn_law_value_int db_law_value_int)))))))))))))), ?_⟩
  have tp : ∀ {H0 H' : Hp} {as0 : List Addr}, Nm37 H0 h nd cd st wd rd nm ns → H0 rl = some (.lst (as0.map V.ref)) → But [wd, rl] H0 H' → Tups H0 H' := fun a0 e0 b0 y xs z => b0 y _ (fun w' => by
    obtain ⟨kw, ws, ew, _⟩ := a0.ew
    have w' : y = wd ∨ y = rl := by simpa using w'
    rcases w' with w' | w'
    · rw [w', ew] at z; cases z
    · rw [w', e0] at z; cases z) z
  cases hR with
  | @num _ nn e =>
    walk_at "vs"
    exact q as H (But.refl _ _) a el hRs
  | @rd _ x e =>
    have hx : x ∈ ns := hpl
    have hn1 : ps.length + 1 ≤ 500 := hno
    have hp5 : ps.length ≤ 500 := by omega
    walk_at "vs"
    intro as' H1 b1 a1 el1 hRs1
    exact q as' H1 b1 a1 el1 hRs1
  | @bin _ x y op r1 r2 e h1 h2 =>
    have hd' : max r1.depth r2.depth + 1 ≤ d + 1 := hdp
    have hd1 : r1.depth ≤ d := by omega
    have hd2 : r2.depth ≤ d := by omega
    obtain ⟨hop, p1, p2⟩ := hpl
    subst hop
    have hno' : ps.length + (1 + r1.nodes + r2.nodes) ≤ 500 := hno
    have hn1 : ps.length + r1.nodes ≤ 500 := by omega
    walk_at "vs"
    intro as1 H1 b1 a1 el1 hRs1
    have t1 := tp a el b1
    have e1 := t1 _ _ e
    have h21 := h2.tups t1
    have hl1 := rd_len nm r1 ps
    have hn2 : (rdT2 nm r1 ps).length + r2.nodes ≤ 500 := by omega
    have hgn1 := rd_gn (nm := nm) a.gn p1 hgn
    walk_at "vs"
    intro as2 H2 b2 a2 el2 hRs2
    have b12 := b1.trans b2
    walk_at "vs"
    intro pz hpz
    have s3 := same_new (.lst [V.int (evT nm r2), V.int (0 - evT nm r2)]) hpz
    have hat : atI [V.int (evT nm r2), V.int (0 - evT nm r2)] 0 = some (.int (evT nm r2)) := rfl
    walk_at "vs"
    exact q as2 _ (b12.trans (But.of_same s3)) (a2.same s3) (s3 _ _ el2) (hRs2.same s3)
  | @pick _ x y z r1 r2 r3 e h1 h2 h3 => exact hpl.elim
  | @cho _ x y r1 xs e h1 h2 =>
    have hd' : r1.depth + 1 ≤ d + 1 := hdp
    have hd1 : r1.depth ≤ d := by omega
    obtain ⟨p1, hx1, hxn⟩ := hpl
    have hno' : ps.length + (1 + r1.nodes) ≤ 500 := hno
    have hn1 : ps.length + r1.nodes ≤ 500 := by omega
    walk_at "vs"
    intro as1 H1 b1 a1 el1 hRs1
    have t1 := tp a el b1
    have e1 := t1 _ _ e
    have h21 := t1 _ _ h2
    obtain ⟨y', hnm⟩ := pick_some hx1 (evT nm r1)
    have hmem : y' ∈ ns := hxn y' (List.mem_of_getElem? hnm)
    have hlm : (xs.map V.str).length = xs.length := List.length_map _
    have hl0 : 0 < ((xs.map V.str).length : Int) := by rw [hlm]; omega
    have hat : atI (xs.map V.str) (evT nm r1 % ((xs.map V.str).length : Int)) = some (.str y') := by
      rw [hlm]
      have hnm' := hnm
      unfold pickN at hnm'
      obtain ⟨j, ej⟩ := Int.eq_ofNat_of_zero_le (Int.emod_nonneg (evT nm r1) (show (xs.length : Int) ≠ 0 by omega))
      rw [ej] at hnm' ⊢
      exact atI_nat (by rw [List.getElem?_map]; rw [Int.toNat_natCast] at hnm'; rw [hnm']; rfl)
    have hl1 := rd_len nm r1 ps
    have hn2 : (rdT2 nm r1 ps).length ≤ 500 := by omega
    have hgn1 := rd_gn (nm := nm) a.gn p1 hgn
    have hev : evT nm (.cho r1 xs) = nm y' := by simp only [evT, hnm]
    have hrd : rdT2 nm (.cho r1 xs) ps = addR nm (rdT2 nm r1 ps) y' := by simp only [rdT2, hnm]
    rw [hev, hrd] at q
    walk_at "vs"
    intro as2 H3 b3 a3 el3 hRs3
    exact q as2 H3 (b1.trans b3) a3 el3 hRs3
theorem ok_law_value {f g : Addr} {fd gd : FuncData} (T_law_value : FnT K mg "_law_value" s_law_value ["house", "r", "state", "reads"] f fd) (T_law_look : FnT K mg "_law_look" s_law_look ["house", "name", "state", "reads"] g gd) (G_law_look : FnOk P w K mg base CX0 3 g gd ["house", "name", "state", "reads"] sp37Lk) (T : Blt mg) : ∀ d, FnOk P w K mg base CX0 (3 + d) f fd ["house", "r", "state", "reads"] (sp37Vl d)
  | 0 => never fun vs H Q E h => by
    obtain ⟨h, nd, cd, st, wd, rd, rl, b, nm, ns, r, as, ps, _, _, _, hd, _⟩ := h
    have := r.depth_pos
    omega
  | d + 1 => step_law_value T_law_value T_law_look G_law_look (ok_law_value T_law_value T_law_look G_law_look T d) T
end

section
variable {P : Program} {w : World} {K : PySem.W.Frag} {mg : Str → Option Value} {base : Heap}
noncomputable abbrev s_law_summed : Stmt := top 36
theorem sc_law_summed : FnScope ["reads", "worth", "parts", "pairs"] ["reads", "worth"] (defScope s_law_summed) := ⟨rfl, rfl, rfl, by decide +kernel, rfl, by decide +kernel, by decide +kernel⟩
theorem lo_law_summed_parts : Loc (defScope s_law_summed) "parts" := by decide +kernel
theorem vo_law_summed_reads : VarOk (defScope s_law_summed) "reads" := by decide +kernel
theorem vo_law_summed_parts : VarOk (defScope s_law_summed) "parts" := by decide +kernel
theorem vo_law_summed_worth : VarOk (defScope s_law_summed) "worth" := by decide +kernel
theorem gl_law_summed_sum : (defScope s_law_summed).names.lookup ("sum" : Str) = some NameKind.globalImplicit := by decide +kernel
theorem nn_law_summed_sum : ("sum" : Str) ≠ "__name__" := by decide +kernel
theorem db_law_summed_sum : (("sum" : Str) == ("__debug__" : Str)) = false := by decide +kernel
theorem gl_law_summed_len : (defScope s_law_summed).names.lookup ("len" : Str) = some NameKind.globalImplicit := by decide +kernel
theorem nn_law_summed_len : ("len" : Str) ≠ "__name__" := by decide +kernel
theorem db_law_summed_len : (("len" : Str) == ("__debug__" : Str)) = false := by decide +kernel
theorem lo_law_summed_pairs : Loc (defScope s_law_summed) "pairs" := by decide +kernel
theorem gl_law_summed_range : (defScope s_law_summed).names.lookup ("range" : Str) = some NameKind.globalImplicit := by decide +kernel
theorem vo_law_summed_pairs : VarOk (defScope s_law_summed) "pairs" := by decide +kernel
theorem ok_law_summed {f : Addr} {fd : FuncData} (T_law_summed : FnT K mg "_law_summed" s_law_summed ["reads", "worth"] f fd) (T : Blt mg) : FnOk P w K mg base CX0 1 f fd ["reads", "worth"] sp37Sum := by
  refine T_law_summed.F.okQ sc_law_summed (fun vs H Q E h => ?_) (fun cdv A outer s H vs Q E hr h => ?_)
  · obtain ⟨l, wo, as, ps, rfl, _⟩ := h
    rfl
  obtain ⟨l, wo, as, ps, rfl, el, hR, hn, hok, q⟩ := h
  refine ⟨_, (qss_cons (qs_set (i := 2) sc_law_summed.nd rfl lo_law_summed_parts (qe_comp rfl (n := 2) (fr := []) (N := ["name", "number"]) (cs_mk (scX := defScope s_law_summed) (NX := ["reads", "worth", "parts", "pairs"]) rfl rfl (by decide +kernel)) (qi_list (qe_var 0 vo_law_summed_reads)) (fun _ _ _ _ _ => (qg_tupK (K := K) (n := 2) rfl rfl (qgs_cons (qgx (i := 0) (show List.Nodup (α := Str) ["name", "number"] by decide) (locC (by decide +kernel))) (qgs_cons (qgx (i := 1) (show List.Nodup (α := Str) ["name", "number"] by decide) (locC (by decide +kernel))) qgs_nil)))) (fun _ _ _ _ _ => qi_nil) (fun _ _ _ _ _ => (qe_tup (qa_C qe_str (qa_N (qe_var 0 (VarC.ok (by decide +kernel))) qa_nil))))))
    (qss_cons (qs_expr (qe_bm PySem.F.plainAttrs_list PySem.F.slot_list_append PySem.F.type_list_append qmt_append (qe_var 2 vo_law_summed_parts) (qa_T (qe_tup (qa_C qe_str (qa_B (qe_op qop_sub (qe_var 1 vo_law_summed_worth) (qe_callB (qc_sumG rfl) gl_law_summed_sum T.b_sum bt_sum (qa_M (qe_comp rfl (n := 2) (fr := []) (N := ["name", "number"]) (cs_mk (scX := defScope s_law_summed) (NX := ["reads", "worth", "parts", "pairs"]) rfl rfl (by decide +kernel)) (qi_list (qe_var 0 vo_law_summed_reads)) (fun _ _ _ _ _ => (qg_tupK (K := K) (n := 2) rfl rfl (qgs_cons (qgx (i := 0) (show List.Nodup (α := Str) ["name", "number"] by decide) (locC (by decide +kernel))) (qgs_cons (qgx (i := 1) (show List.Nodup (α := Str) ["name", "number"] by decide) (locC (by decide +kernel))) qgs_nil)))) (fun _ _ _ _ _ => qi_nil) (fun _ _ _ _ _ => (qe_var 1 (VarC.ok (by decide +kernel))))) qa_nil) nn_law_summed_sum db_law_summed_sum)) qa_nil))) qa_nil)))
    (qss_cons (qs_while PassesOwn.never (qt_cmp qop_gt (qe_callB qc_len_seq gl_law_summed_len T.b_len bt_len (qa_N (qe_var 2 vo_law_summed_parts) qa_nil) nn_law_summed_len db_law_summed_len) qe_int (nomarkQ _)) (qss_cons (qs_setcomp (i := 3) rfl sc_law_summed.nd rfl lo_law_summed_pairs (n := 1) (fr := [2]) (N := ["k", "parts"]) (cs_mk (scX := defScope s_law_summed) (NX := ["reads", "worth", "parts", "pairs"]) rfl rfl (by decide +kernel)) (qi_range3 gl_law_summed_range T.b_range (qa_C qe_int (qa_B (qe_op qop_sub (qe_callB qc_len_seq gl_law_summed_len T.b_len bt_len (qa_N (qe_var 2 vo_law_summed_parts) qa_nil) nn_law_summed_len db_law_summed_len) qe_int) (qa_C qe_int qa_nil)))) (fun _ _ _ _ _ => (qgx (i := 0) (show List.Nodup (α := Str) ["k", "parts"] by decide) (locC (by decide +kernel)))) (fun _ _ _ _ _ => qi_nil) (fun _ _ _ _ _ => (qe_tup (qa_C qe_str (qa_S (qe_ix (qix_listK (K := K) rfl) (qe_var 1 (VarC.ok (by decide +kernel))) (qe_var 0 (VarC.ok (by decide +kernel)))) (qa_S (qe_ix (qix_listK (K := K) rfl) (qe_var 1 (VarC.ok (by decide +kernel))) (qe_op qop_add (qe_var 0 (VarC.ok (by decide +kernel))) qe_int)) qa_nil))))) rfl)
    (qss_one (qs_set (i := 2) sc_law_summed.nd rfl lo_law_summed_parts (qe_op qop_cat (qe_var 3 vo_law_summed_pairs) (qe_slice qsl_list (qe_var 2 vo_law_summed_parts) (qo_some (qe_op qop_mul (qe_callB qc_len_seq gl_law_summed_len T.b_len bt_len (qa_N (qe_var 3 vo_law_summed_pairs) qa_nil) nn_law_summed_len db_law_summed_len) qe_int)) qo_none))))))
    (qss_one (qs_ret (qe_ix qix_list (qe_var 2 vo_law_summed_parts) qe_int)))))), ?_⟩
  have hl := hR.length
  have hlm : (as.map V.ref).length = as.length := List.length_map _
  walk_at "vs"
  intro D hD
  refine comp_list (xs := as.map V.ref) (fun i σ' H' => (∃ t u, σ' = [t, u]) ∧ Same H H' ∧ RowN H' D i 1) ?_ ?_ ?_ ?_
  · exact ⟨⟨none, none, rfl⟩, same_new _ hD, [], upd_same, rfl, by simp⟩
  · intro i σ' H' _ hP
    exact SqL.of (hP.2.1 _ _ el)
  · intro i x σ' H' hx hP
    obtain ⟨⟨t, u, rfl⟩, hs, rs, eD, hln, hrs⟩ := hP
    have hi : i < (as.map V.ref).length := (List.getElem?_eq_some_iff.mp hx).1
    obtain ⟨b, hb, rfl⟩ := ref_at hx
    obtain ⟨pb, hpb, eb⟩ := hR.get i b hb
    have eb' := hs _ _ eb
    have hpo := hok pb (List.mem_of_getElem? hpb)
    have hz : (rs.map V.ref).length < sizeLine := by
      rw [List.length_map]; exact small1000 (by omega)
    walk_at "vs"
    intro p5 hp5
    have s5 := same_new (.tup [V.str "read", V.str pb.1]) hp5
    have eD5 := s5 _ _ eD
    refine ⟨_, eD5, hz, ⟨_, _, rfl⟩, same_updN _ hD (hs.trans s5), ?_⟩
    refine RowN.add (r := .rd pb.1) eD5 hln (fun a ha => ?_) (.rd upd_same) hpo (Nat.le_refl _)
    obtain ⟨r, h1, h2⟩ := hrs a ha
    exact ⟨r, h1.same s5, h2⟩
  intro σ' H1 hP
  obtain ⟨_, s1, rs, eR, hlr, hrs⟩ := hP
  rw [hlm, hl] at hlr
  have el1 := s1 _ _ el
  walk_at "vs"
  intro D2 hD2
  refine comp_list (xs := as.map V.ref) (fun i σ' H' => (∃ t u, σ' = [t, u]) ∧ Same H1 H' ∧ ∃ ns : List Int, H' D2 = some (.lst (ns.map V.int)) ∧ ns.length = i) ?_ ?_ ?_ ?_
  · exact ⟨⟨none, none, rfl⟩, same_new _ hD2, [], upd_same, rfl⟩
  · intro i σ' H' _ hP
    exact SqL.of (hP.2.1 _ _ el1)
  · intro i x σ' H' hx hP
    obtain ⟨⟨t, u, rfl⟩, hs, ns, eD, hln⟩ := hP
    have hi : i < (as.map V.ref).length := (List.getElem?_eq_some_iff.mp hx).1
    obtain ⟨b, hb, rfl⟩ := ref_at hx
    obtain ⟨pb, hpb, eb⟩ := hR.get i b hb
    have eb' := hs _ _ (s1 _ _ eb)
    have hpo := hok pb (List.mem_of_getElem? hpb)
    have hz : (ns.map V.int).length < sizeLine := by
      rw [List.length_map]; exact small1000 (by omega)
    walk_at "vs"
    exact ⟨⟨_, _, rfl⟩, same_updN _ hD2 hs, ns ++ [pb.2], by rw [upd_same, List.map_append]; rfl, by rw [List.length_append, hln]; rfl⟩
  intro σ'' H2 hP
  obtain ⟨_, s2, ns, eN, hln⟩ := hP
  have eR2 := s2 _ _ eR
  walk_at "vs"
  intro p3 hp3
  have s3 := same_new (.tup [V.str "number", V.int (wo - ns.sum)]) hp3
  have eR3 := s3 _ _ eR2
  have hz3 : (rs.map V.ref).length < sizeLine := by rw [List.length_map]; exact small1000 (by omega)
  walk_at "vs"
  have row0 := RowN.add (r := .num (wo - ns.sum)) (d := 1) (x := p3) eR3 hlr (fun a ha => (hrs a ha).imp fun r h => ⟨h.1.same (s2.trans s3), h.2⟩) (.num upd_same) trivial (Nat.le_refl _)
  have s4 : Same H (upd (upd H2 p3 (.tup [V.str "number", V.int (wo - ns.sum)])) D (.lst (rs.map V.ref ++ [V.ref p3]))) := same_updN _ hD (s1.trans (s2.trans s3))
  generalize upd (upd H2 p3 (.tup [V.str "number", V.int (wo - ns.sum)])) D (.lst (rs.map V.ref ++ [V.ref p3])) = H4 at *
  refine ⟨fun m σ H1 => ∃ p d t, σ = [some (.ref l), some (.int wo), some (.ref p), t] ∧ Same H H1 ∧ RowN H1 p m d ∧ 1 ≤ m ∧ LC m d,
    ⟨ps.length + 1, D, 1, _, rfl, s4, row0, by omega, .inl ⟨by omega, rfl⟩⟩, ?_⟩
  clear s4 row0 eR3 s3 hz3 eR2 eN s2 el1 hrs eR s1 hD hD2 hp3 hln hlr el hR
  rintro m σ H1 ⟨p, d, t0, rfl, s0, ⟨xs, e, el, hall⟩, h1, hLC⟩
  have hlm : (xs.map V.ref).length = xs.length := List.length_map _
  have hle := hLC.le
  walk_at "vs"
  refine ite2 (fun c1 => ?_) (fun c1 => ?_)
  · have c1' : 1 < ((xs.map V.ref).length : Int) := by simpa using c1
    have h7 := hLC.le7 (by omega)
    refine ⟨fun σ' H' => ∃ p' t, σ' = [some (.ref l), some (.int wo), some (.ref p'), t] ∧ Same H H' ∧ RowN H' p' ((m + 1) / 2) (d + 1), ?_, ?_⟩
    · rintro σ' H' ⟨p', t, rfl, s', r'⟩
      exact ⟨(m + 1) / 2, by omega, p', d + 1, t, rfl, s', r', by omega, hLC.next (by omega)⟩
    · walk_at "vs"
      intro D2 hD2
      have hrn : rngN 0 (((xs.map V.ref).length : Int) - 1) 2 = m / 2 := by rw [hlm, el]; exact rngH (by omega)
      refine comp_range3 (fun i σ' H' => (∃ t, σ' = t :: [some (.ref p)]) ∧ Same H1 H' ∧ RowN H' D2 i (d + 1)) ?_ ?_ ?_
      · exact ⟨⟨none, rfl⟩, same_new _ hD2, [], upd_same, rfl, by simp⟩
      · intro i σ' H' hi hP
        obtain ⟨⟨t, rfl⟩, hs', qs, e', el', hall'⟩ := hP
        rw [hrn] at hi
        have ep := hs' _ _ e
        have hz : (qs.map V.ref).length < sizeLine := by rw [List.length_map]; exact small1000 (by omega)
        have g1 : xs[2 * i]? = some (xs[2 * i]'(by omega)) := List.getElem?_eq_getElem _
        have g2 : xs[2 * i + 1]? = some (xs[2 * i + 1]'(by omega)) := List.getElem?_eq_getElem _
        have a1 : atI (xs.map V.ref) (0 + (i : Int) * 2) = some (.ref (xs[2 * i]'(by omega))) := by
          rw [show (0 + (i : Int) * 2) = ((2 * i : Nat) : Int) by omega]
          exact atI_nat (by rw [List.getElem?_map, g1]; rfl)
        have a2 : atI (xs.map V.ref) (0 + (i : Int) * 2 + 1) = some (.ref (xs[2 * i + 1]'(by omega))) := by
          rw [show (0 + (i : Int) * 2 + 1) = ((2 * i + 1 : Nat) : Int) by omega]
          exact atI_nat (by rw [List.getElem?_map, g2]; rfl)
        obtain ⟨x, hx1, hx2, hx3⟩ := hall _ (List.mem_of_getElem? g1)
        obtain ⟨y, hy1, hy2, hy3⟩ := hall _ (List.mem_of_getElem? g2)
        generalize xs[2 * i]'(by omega) = b1 at *
        generalize xs[2 * i + 1]'(by omega) = b2 at *
        walk_at "vs"
        intro p5 hp5
        have s5 := same_new (.tup [V.str "plus", V.ref b1, V.ref b2]) hp5
        have eD5 := s5 _ _ e'
        refine ⟨_, eD5, hz, ⟨_, rfl⟩, same_updN _ hD2 (hs'.trans s5), ?_⟩
        exact RowN.add (r := .bin .plus x y) eD5 el' (fun a ha => (hall' a ha).imp fun r h => ⟨h.1.same s5, h.2⟩) (.bin (op := .plus) upd_same (hx1.same (hs'.trans s5)) (hy1.same (hs'.trans s5))) ⟨hx2, hy2⟩ (by show max x.depth y.depth + 1 ≤ d + 1; omega)
      · intro σ' H' hP
        obtain ⟨_, hs', qs, e', el', hall'⟩ := hP
        rw [hrn] at el'
        have ep := hs' _ _ e
        have hlq : (qs.map V.ref).length = m / 2 := by rw [List.length_map]; exact el'
        have hdiv : ((qs.map V.ref).length : Int) * 2 = ((2 * (m / 2) : Nat) : Int) := by rw [hlq]; omega
        have hmul : CMul ((qs.map V.ref).length : Int) 2 := .inr ⟨by decide, by decide⟩
        walk_at "vs"
        intro p6 hp6
        rw [hdiv, cut_from', ← List.map_drop]
        have s6 := same_new (.lst ((xs.drop (2 * (m / 2))).map V.ref)) hp6
        have e6 := s6 _ _ e'
        have ep6 : upd H' p6 (.lst ((xs.drop (2 * (m / 2))).map V.ref)) p6 = some (.lst ((xs.drop (2 * (m / 2))).map V.ref)) := upd_same
        generalize upd H' p6 (.lst ((xs.drop (2 * (m / 2))).map V.ref)) = H6 at *
        have hrl : (xs.drop (2 * (m / 2))).length = m - 2 * (m / 2) := by rw [List.length_drop, el]
        have hzc : (qs.map V.ref).length + ((xs.drop (2 * (m / 2))).map V.ref).length ≤ sizeLine := by rw [List.length_map, List.length_map, el', hrl, sizeLine_eq]; omega
        walk_at "vs"
        intro p7 hp7
        have s7 := same_new (.lst (qs.map V.ref ++ (xs.drop (2 * (m / 2))).map V.ref)) hp7
        refine ⟨p7, _, rfl, s0.trans (hs'.trans (s6.trans s7)), qs ++ xs.drop (2 * (m / 2)), by rw [upd_same, List.map_append], by rw [List.length_append, el', hrl]; omega, fun a ha => ?_⟩
        rcases List.mem_append.mp ha with z | z
        · exact (hall' a z).imp fun r h => ⟨h.1.same (s6.trans s7), h.2⟩
        · exact (hall a (List.mem_of_mem_drop z)).imp fun r h => ⟨h.1.same (hs'.trans (s6.trans s7)), h.2.1, by omega⟩
  · have c1' : ¬ 1 < ((xs.map V.ref).length : Int) := by simpa using c1
    rcases xs with _ | ⟨x, _ | ⟨x2, xs⟩⟩
    · simp at el; omega
    · obtain ⟨r, hr1, hr2, hr3⟩ := hall x (by simp)
      have at0 : atI ([x].map V.ref) 0 = some (.ref x) := atI_nat (j := 0) rfl
      walk_at "vs"
      exact q x r H1 s0 hr1 hr2 (by omega)
    · simp at c1'; omega
end

section
variable {P : Program} {w : World} {K : PySem.W.Frag} {mg : Str → Option Value} {base : Heap}
theorem ok_law_cell2 {f : Addr} {fd : FuncData} (T_law_cell_at : FnT K mg "_law_cell_at" s_law_cell_at ["script", "k"] f fd) (T : Blt mg) : FnOk P w K mg base CX0 1 f fd ["script", "k"] (sp2Cell K) := by
  refine T_law_cell_at.F.okQ sc_law_cell_at (fun vs H Q E h => ?_) (fun cdv A outer s H vs Q E hr h => ?_)
  · obtain ⟨a, ns, k, rfl, _⟩ := h
    rfl
  obtain ⟨a, ns, k, rfl, hS, h0, q⟩ := h
  refine ⟨_, (qss_cons (qs_if (qt_cmp qop_lt (qe_var 1 vo_law_cell_at_k) (qe_callB qc_len_seq gl_law_cell_at_len T.b_len bt_len (qa_N (qe_var 0 vo_law_cell_at_script) qa_nil) nn_law_cell_at_len db_law_cell_at_len) (nomarkQ _)) (qss_one (qs_ret (qe_ix qix_list (qe_var 0 vo_law_cell_at_script) (qe_var 1 vo_law_cell_at_k)))) qss_nil)
    (qss_one (qs_ret qe_int))), ?_⟩
  obtain ⟨j, rfl⟩ := Int.eq_ofNat_of_zero_le h0
  rw [Int.toNat_natCast] at q
  walk_at "vs"
  refine ite2 (fun c1 => ?_) (fun c1 => ?_)
  · have c1' : (j : Int) < ((ns.map V.int).length : Int) := by simpa using c1
    rw [List.length_map] at c1'
    have hj : ns[j]? = some (ns[j]'(by omega)) := List.getElem?_eq_getElem _
    have hat : atI (ns.map V.int) (j : Int) = some (.int (ns[j]'(by omega))) := atI_nat (by rw [List.getElem?_map, hj]; rfl)
    rw [List.getD_eq_getElem?_getD, hj] at q
    walk_at "vs"
    exact q
  · have c1' : ¬ (j : Int) < ((ns.map V.int).length : Int) := by simpa using c1
    rw [List.length_map] at c1'
    rw [List.getD_eq_getElem?_getD, List.getElem?_eq_none_iff.mpr (by omega)] at q
    walk_at "vs"
    exact q
noncomputable abbrev s_law_record : Stmt := top 37
theorem sc_law_record : FnScope ["script", "pool", "many", "reads", "k", "cell", "number", "name", "worth"] ["script"] (defScope s_law_record) := ⟨rfl, rfl, rfl, by decide +kernel, rfl, by decide +kernel, by decide +kernel⟩
theorem lo_law_record_pool : Loc (defScope s_law_record) "pool" := by decide +kernel
theorem gl_law_record__law_pool : (defScope s_law_record).names.lookup ("_law_pool" : Str) = some NameKind.globalImplicit := by decide +kernel
theorem vo_law_record_script : VarOk (defScope s_law_record) "script" := by decide +kernel
theorem db_law_record__law_pool : (("_law_pool" : Str) == ("__debug__" : Str)) = false := by decide +kernel
theorem lo_law_record_many : Loc (defScope s_law_record) "many" := by decide +kernel
theorem gl_law_record__law_take : (defScope s_law_record).names.lookup ("_law_take" : Str) = some NameKind.globalImplicit := by decide +kernel
theorem vo_law_record_pool : VarOk (defScope s_law_record) "pool" := by decide +kernel
theorem db_law_record__law_take : (("_law_take" : Str) == ("__debug__" : Str)) = false := by decide +kernel
theorem lo_law_record_reads : Loc (defScope s_law_record) "reads" := by decide +kernel
theorem gl_law_record_range : (defScope s_law_record).names.lookup ("range" : Str) = some NameKind.globalImplicit := by decide +kernel
theorem vo_law_record_many : VarOk (defScope s_law_record) "many" := by decide +kernel
theorem lo_law_record_k : Loc (defScope s_law_record) "k" := by decide +kernel
theorem lo_law_record_cell : Loc (defScope s_law_record) "cell" := by decide +kernel
theorem vo_law_record_k : VarOk (defScope s_law_record) "k" := by decide +kernel
theorem lo_law_record_number : Loc (defScope s_law_record) "number" := by decide +kernel
theorem vo_law_record_cell : VarOk (defScope s_law_record) "cell" := by decide +kernel
theorem lo_law_record_name : Loc (defScope s_law_record) "name" := by decide +kernel
theorem gl_law_record__law_name : (defScope s_law_record).names.lookup ("_law_name" : Str) = some NameKind.globalImplicit := by decide +kernel
theorem gl_law_record__law_cell_at : (defScope s_law_record).names.lookup ("_law_cell_at" : Str) = some NameKind.globalImplicit := by decide +kernel
theorem db_law_record__law_cell_at : (("_law_cell_at" : Str) == ("__debug__" : Str)) = false := by decide +kernel
theorem db_law_record__law_name : (("_law_name" : Str) == ("__debug__" : Str)) = false := by decide +kernel
theorem vo_law_record_reads : VarOk (defScope s_law_record) "reads" := by decide +kernel
theorem vo_law_record_number : VarOk (defScope s_law_record) "number" := by decide +kernel
theorem vo_law_record_name : VarOk (defScope s_law_record) "name" := by decide +kernel
theorem lo_law_record_worth : Loc (defScope s_law_record) "worth" := by decide +kernel
theorem gl_law_record_sum : (defScope s_law_record).names.lookup ("sum" : Str) = some NameKind.globalImplicit := by decide +kernel
theorem nn_law_record_sum : ("sum" : Str) ≠ "__name__" := by decide +kernel
theorem db_law_record_sum : (("sum" : Str) == ("__debug__" : Str)) = false := by decide +kernel
theorem vo_law_record_worth : VarOk (defScope s_law_record) "worth" := by decide +kernel
theorem gl_law_record__law_summed : (defScope s_law_record).names.lookup ("_law_summed" : Str) = some NameKind.globalImplicit := by decide +kernel
theorem db_law_record__law_summed : (("_law_summed" : Str) == ("__debug__" : Str)) = false := by decide +kernel
theorem ok_law_record {f g1 g2 g3 g4 g5 : Addr} {fd gd1 gd2 gd3 gd4 gd5 : FuncData} (T_law_record : FnT K mg "_law_record" s_law_record ["script"] f fd)
    (T_law_cell_at : FnT K mg "_law_cell_at" s_law_cell_at ["script", "k"] g1 gd1) (G_law_cell_at : FnOk P w K mg base CX0 1 g1 gd1 ["script", "k"] (sp2Cell K))
    (T_law_pool : FnT K mg "_law_pool" s_law_pool ["script", "k"] g2 gd2) (G_law_pool : FnOk P w K mg base CX0 2 g2 gd2 ["script", "k"] (spPool K))
    (T_law_take : FnT K mg "_law_take" s_law_take ["pool", "many"] g3 gd3) (G_law_take : FnOk P w K mg base CX0 1 g3 gd3 ["pool", "many"] spTake)
    (T_law_name : FnT K mg "_law_name" s_law_name ["k"] g4 gd4) (G_law_name : FnOk P w K mg base CX0 1 g4 gd4 ["k"] spLaName)
    (T_law_summed : FnT K mg "_law_summed" s_law_summed ["reads", "worth"] g5 gd5) (G_law_summed : FnOk P w K mg base CX0 1 g5 gd5 ["reads", "worth"] sp37Sum)
    (T : Blt mg) : FnOk P w K mg base CX0 3 f fd ["script"] (sp37Rec K) := by
  refine T_law_record.F.okQ sc_law_record (fun vs H Q E h => ?_) (fun cdv A outer s H vs Q E hr h => ?_)
  · obtain ⟨a, zs, rfl, _⟩ := h
    rfl
  obtain ⟨a, zs, rfl, hS, q⟩ := h
  refine ⟨_, (qss_cons (qs_set (i := 1) sc_law_record.nd rfl lo_law_record_pool (qe_call (G_law_pool.mono (by omega)) hr gl_law_record__law_pool T_law_pool.m T_law_pool.F.kp T_law_pool.b .nil pass0 (qa_N (qe_var 0 vo_law_record_script) (qa_C qe_int qa_nil)) db_law_record__law_pool))
    (qss_cons (qs_set (i := 2) sc_law_record.nd rfl lo_law_record_many (qe_ix qix_list (qe_lst (qa_B (qe_op qop_add qe_int (qe_call (G_law_take.mono (by omega)) hr gl_law_record__law_take T_law_take.m T_law_take.F.kp T_law_take.b .nil pass0 (qa_N (qe_var 1 vo_law_record_pool) (qa_C qe_int qa_nil)) db_law_record__law_take)) (qa_C qe_int (qa_B (qe_op qop_add qe_int (qe_call (G_law_take.mono (by omega)) hr gl_law_record__law_take T_law_take.m T_law_take.F.kp T_law_take.b .nil pass0 (qa_N (qe_var 1 vo_law_record_pool) (qa_C qe_int qa_nil)) db_law_record__law_take)) qa_nil)))) (qe_call (G_law_take.mono (by omega)) hr gl_law_record__law_take T_law_take.m T_law_take.F.kp T_law_take.b .nil pass0 (qa_N (qe_var 1 vo_law_record_pool) (qa_C qe_int qa_nil)) db_law_record__law_take)))
    (qss_cons (qs_set (i := 3) sc_law_record.nd rfl lo_law_record_reads (qe_lst qa_nil))
    (qss_cons (qs_for PassesOwn.never rfl (qi_range1 gl_law_record_range T.b_range (qa_N (qe_var 2 vo_law_record_many) qa_nil)) (qg_name (i := 4) sc_law_record.nd rfl lo_law_record_k) (qss_cons (qs_set (i := 5) sc_law_record.nd rfl lo_law_record_cell (qe_call (G_law_pool.mono (by omega)) hr gl_law_record__law_pool T_law_pool.m T_law_pool.F.kp T_law_pool.b .nil pass0 (qa_N (qe_var 0 vo_law_record_script) (qa_B (qe_op qop_add qe_int (qe_var 4 vo_law_record_k)) qa_nil)) db_law_record__law_pool))
    (qss_cons (qs_set (i := 6) sc_law_record.nd rfl lo_law_record_number (qe_ix qix_list (qe_lst (qa_C qe_int (qa_B (qe_op qop_sub (qe_call (G_law_take.mono (by omega)) hr gl_law_record__law_take T_law_take.m T_law_take.F.kp T_law_take.b .nil pass0 (qa_N (qe_var 5 vo_law_record_cell) (qa_C qe_int qa_nil)) db_law_record__law_take) qe_int) (qa_B (qe_op qop_sub (qe_call (G_law_take.mono (by omega)) hr gl_law_record__law_take T_law_take.m T_law_take.F.kp T_law_take.b .nil pass0 (qa_N (qe_var 5 vo_law_record_cell) (qa_B (qe_op qop_pow qe_int qe_int) qa_nil)) db_law_record__law_take) (qe_op qop_mul qe_int (qe_op qop_pow qe_int qe_int))) (qa_N (qe_var 4 vo_law_record_k) qa_nil))))) (qe_call (G_law_take.mono (by omega)) hr gl_law_record__law_take T_law_take.m T_law_take.F.kp T_law_take.b .nil pass0 (qa_N (qe_var 5 vo_law_record_cell) (qa_C qe_int qa_nil)) db_law_record__law_take)))
    (qss_cons (qs_set (i := 7) sc_law_record.nd rfl lo_law_record_name (qe_call (G_law_name.mono (by omega)) hr gl_law_record__law_name T_law_name.m T_law_name.F.kp T_law_name.b .nil pass0 (qa_B (qe_op qop_mod (qe_op qop_add (qe_op qop_mul (qe_var 4 vo_law_record_k) qe_int) (qe_call (G_law_cell_at.mono (by omega)) hr gl_law_record__law_cell_at T_law_cell_at.m T_law_cell_at.F.kp T_law_cell_at.b .nil pass0 (qa_N (qe_var 0 vo_law_record_script) (qa_C qe_int qa_nil)) db_law_record__law_cell_at)) qe_int) qa_nil) db_law_record__law_name))
    (qss_cons (qs_if (qt_cmp qop_gt (qe_var 4 vo_law_record_k) qe_int (nomarkQ _)) (qss_one (qs_set (i := 7) sc_law_record.nd rfl lo_law_record_name (qe_ix qix_list (qe_lst (qa_C qe_str (qa_C qe_str (qa_C qe_str qa_nil)))) (qe_op qop_sub (qe_var 4 vo_law_record_k) qe_int)))) qss_nil)
    (qss_one (qs_expr (qe_bm PySem.F.plainAttrs_list PySem.F.slot_list_append PySem.F.type_list_append qmt_append (qe_var 3 vo_law_record_reads) (qa_T (qe_tup (qa_N (qe_var 7 vo_law_record_name) (qa_N (qe_var 6 vo_law_record_number) qa_nil))) qa_nil)))))))))
    (qss_cons (qs_set (i := 8) sc_law_record.nd rfl lo_law_record_worth (qe_ix qix_list (qe_lst (qa_F (qe_callB (qc_sumG rfl) gl_law_record_sum T.b_sum bt_sum (qa_M (qe_comp rfl (n := 2) (fr := []) (N := ["name", "number"]) (cs_mk (scX := defScope s_law_record) (NX := ["script", "pool", "many", "reads", "k", "cell", "number", "name", "worth"]) rfl rfl (by decide +kernel)) (qi_list (qe_var 3 vo_law_record_reads)) (fun _ _ _ _ _ => (qg_tupK (K := K) (n := 2) rfl rfl (qgs_cons (qgx (i := 0) (show List.Nodup (α := Str) ["name", "number"] by decide) (locC (by decide +kernel))) (qgs_cons (qgx (i := 1) (show List.Nodup (α := Str) ["name", "number"] by decide) (locC (by decide +kernel))) qgs_nil)))) (fun _ _ _ _ _ => qi_nil) (fun _ _ _ _ _ => (qe_var 1 (VarC.ok (by decide +kernel))))) qa_nil) nn_law_record_sum db_law_record_sum) (qa_B (qe_op qop_sub (qe_call (G_law_take.mono (by omega)) hr gl_law_record__law_take T_law_take.m T_law_take.F.kp T_law_take.b .nil pass0 (qa_N (qe_var 1 vo_law_record_pool) (qa_B (qe_op qop_pow qe_int qe_int) qa_nil)) db_law_record__law_take) (qe_op qop_mul qe_int (qe_op qop_pow qe_int qe_int))) qa_nil))) (qe_call (G_law_take.mono (by omega)) hr gl_law_record__law_take T_law_take.m T_law_take.F.kp T_law_take.b .nil pass0 (qa_N (qe_var 1 vo_law_record_pool) (qa_C qe_int qa_nil)) db_law_record__law_take)))
    (qss_one (qs_ret (qe_tup (qa_F (qe_call (G_law_summed.mono (by omega)) hr gl_law_record__law_summed T_law_summed.m T_law_summed.F.kp T_law_summed.b .nil pass0 (qa_N (qe_var 3 vo_law_record_reads) (qa_N (qe_var 8 vo_law_record_worth) qa_nil)) db_law_record__law_summed) (qa_N (qe_var 3 vo_law_record_reads) (qa_N (qe_var 8 vo_law_record_worth) qa_nil))))))))))), ?_⟩
  walk_at "vs"
  intro p H1 s1 hp pl1
  have hS1 := SqL.same s1 hS
  walk_at "vs"
  intro n2 H2 n20 n21 b2 pl2
  walk_at "vs"
  intro n3 H3 n30 n31 b3 pl3
  walk_at "vs"
  intro pz hpz
  have s3z := same_new (.lst [V.int (1 + n2), V.int 29, V.int (1 + n3)]) hpz
  have pl3z := pl3.same s3z
  walk_at "vs"
  intro n4 H4 n40 n41 b4 pl4
  have fr : ∀ z ∈ [p], H z = none := by simpa using hp
  have S3 := (but_same (but_same s1 fr b2) fr b3).trans s3z
  have S4 := but_same S3 fr b4
  have ez : H4 pz = some (.lst [V.int (1 + n2), V.int 29, V.int (1 + n3)]) := b4 pz _ (by simpa using pl3.ne hpz) upd_same
  obtain ⟨m, hm1, hm2, hmat⟩ : ∃ m : Nat, 1 ≤ m ∧ m ≤ 29 ∧ atI [V.int (1 + n2), V.int 29, V.int (1 + n3)] n4 = some (.int (m : Int)) := by
    have hc : n4 = 0 ∨ n4 = 1 ∨ n4 = 2 := by omega
    rcases hc with rfl | rfl | rfl
    · exact ⟨(1 + n2).toNat, by omega, by omega, by rw [Int.toNat_of_nonneg (by omega)]; rfl⟩
    · exact ⟨29, by omega, by omega, rfl⟩
    · exact ⟨(1 + n3).toNat, by omega, by omega, by rw [Int.toNat_of_nonneg (by omega)]; rfl⟩
  clear S3 b2 b3 b4 pl1 pl2 pl3 pl3z s3z hS1 s1
  walk_at "vs"
  intro pr hpr
  clear ez hmat
  walk_at "v"
  walk_at "v"
  walk_at "v"
  refine And.intro (by omega) ?_
  refine for_range (fun i σ H' => (∃ t4 t5 t6 t7, σ = [some (.ref a), some (.ref p), some (.int (m : Int)), some (.ref pr), t4, t5, t6, t7, none]) ∧ Same H4 H' ∧ ∃ as ps, H' pr = some (.lst (as.map V.ref)) ∧ IsRds H' as ps ∧ ps.map (·.1) = (List.range i).map (nm37 (zs.getD 0 0))) ?_ ?_ ?_
  · exact ⟨⟨_, _, _, _, rfl⟩, same_new _ hpr, [], [], upd_same, .nil, rfl⟩
  · intro i σ H5 hi hP
    obtain ⟨⟨t4, t5, t6, t7, rfl⟩, S5, as, ps, eR, hR, hps⟩ := hP
    have hS5 := SqL.same (S4.trans S5) hS
    have cp1 : CPow 10 60 := ⟨by decide, by decide, by decide⟩
    have cp2 : CPow 10 59 := ⟨by decide, by decide, by decide⟩
    have cm5 : CMul 5 (10 ^ (59 : Int).toNat) := .inl ⟨by decide, by decide⟩
    walk_at "vs"
    intro cl H6 s6 hcl pl6
    have frc : ∀ z ∈ [cl], H5 z = none := by simpa using hcl
    walk_at "vs"
    intro n7 H7 n70 n71 b7 pl7
    have S7 := but_same s6 frc b7
    walk_at "vs"
    intro n8 H8 n80 n81 b8 pl8
    have S8 := but_same S7 frc b8
    walk_at "vs"
    intro pn hpn
    have s9 := same_new (.lst [V.int 0, V.int (n7 - 4), V.int (n8 - 5 * 10 ^ (59 : Int).toNat), V.int (0 + (i : Int))]) hpn
    have pl9 := pl8.same s9
    walk_at "vs"
    intro n9 H9 n90 n91 b9 pl10
    have S9 := but_same (S8.trans s9) frc b9
    have ez : H9 pn = some (.lst [V.int 0, V.int (n7 - 4), V.int (n8 - 5 * 10 ^ (59 : Int).toNat), V.int (0 + (i : Int))]) := b9 pn _ (by simpa using pl8.ne hpn) upd_same
    obtain ⟨v, hv⟩ : ∃ v : Int, atI [V.int 0, V.int (n7 - 4), V.int (n8 - 5 * 10 ^ (59 : Int).toNat), V.int (0 + (i : Int))] n9 = some (.int v) := by
      have hc : n9 = 0 ∨ n9 = 1 ∨ n9 = 2 ∨ n9 = 3 := by omega
      rcases hc with rfl | rfl | rfl | rfl
      · exact ⟨_, rfl⟩
      · exact ⟨_, rfl⟩
      · exact ⟨_, rfl⟩
      · exact ⟨_, rfl⟩
    have hS9 := SqL.same (S4.trans (S5.trans S9)) hS
    have eR9 := S9 _ _ eR
    have hR9 := hR.same S9
    clear S8 S7 s6 b9 b8 b7 pl6 pl7 pl8 pl9 pl10 s9 cp1 cp2 cm5
    have hm3 : CMul (0 + (i : Int)) 3 := .inr ⟨by decide, by decide⟩
    walk_at "vs"
    have hk0 := Int.emod_nonneg ((0 + (i : Int)) * 3 + zs.getD 0 0) (show (26 : Int) ≠ 0 by decide)
    have hk1 := Int.emod_lt_of_pos ((0 + (i : Int)) * 3 + zs.getD 0 0) (show (0 : Int) < 26 by decide)
    refine ⟨(((0 + (i : Int)) * 3 + zs.getD 0 0) % 26).toNat, congrArg (fun z => [V.int z]) (Int.toNat_of_nonneg hk0).symm, by omega, ?_⟩
    have hz : (as.map V.ref).length < sizeLine := by
      have h1 := hR.length
      have h2 : ps.length = i := by rw [← List.length_map (f := (·.1)), hps, List.length_map, List.length_range]
      rw [List.length_map]; exact small1000 (by omega)
    have fin : ∀ (Hx : Hp) (pt : Addr), Same H9 Hx → Hx pt = none → Same H4 (upd (upd Hx pt (.tup [.str (nm37 (zs.getD 0 0) i), .int v])) pr (.lst (as.map V.ref ++ [.ref pt]))) ∧ ∃ as' ps', (upd (upd Hx pt (.tup [.str (nm37 (zs.getD 0 0) i), .int v])) pr (.lst (as.map V.ref ++ [.ref pt]))) pr = some (.lst (as'.map V.ref)) ∧ IsRds (upd (upd Hx pt (.tup [.str (nm37 (zs.getD 0 0) i), .int v])) pr (.lst (as.map V.ref ++ [.ref pt]))) as' ps' ∧ ps'.map (·.1) = (List.range (i + 1)).map (nm37 (zs.getD 0 0)) := by
      intro Hx pt sx hpt
      have s1 := sx.trans (same_new (.tup [.str (nm37 (zs.getD 0 0) i), .int v]) hpt)
      refine ⟨same_updN _ hpr (S5.trans (S9.trans s1)), as ++ [pt], ps ++ [(nm37 (zs.getD 0 0) i, v)], by rw [upd_same, List.map_append]; rfl, IsRds.tups (tups_set _ (s1 _ _ eR9)) (IsRds.snoc (p := (nm37 (zs.getD 0 0) i, v)) upd_same (hR9.same s1)), ?_⟩
      rw [List.map_append, hps, List.range_succ, List.map_append]; rfl
    walk_at "vs"
    refine ite2 (fun c1 => ?_) (fun c1 => ?_)
    · have c1' : 25 < 0 + (i : Int) := by simpa using c1
      walk_at "vs"
      intro pq hpq
      have hat : atI [V.str "qz", V.str "xz", V.str "jz"] (0 + (i : Int) - 26) = some (.str (nm37 (zs.getD 0 0) i)) := by
        rw [Int.zero_add]; exact nm37_high (by omega) (by omega)
      have s10 := same_new (.lst [V.str "qz", V.str "xz", V.str "jz"]) hpq
      have eR10 := s10 _ _ eR9
      walk_at "vs"
      intro pt hpt
      have eR11 := same_new (.tup [.str (nm37 (zs.getD 0 0) i), .int v]) hpt _ _ eR10
      walk_at "vs"
      exact ⟨⟨_, _, _, _, rfl⟩, fin _ pt s10 hpt⟩
    · have c1' : ¬ 25 < 0 + (i : Int) := by simpa using c1
      have hnm : nameK (((0 + (i : Int)) * 3 + zs.getD 0 0) % 26).toNat = nm37 (zs.getD 0 0) i := by
        rw [Int.zero_add]; exact (nm37_low (by omega)).symm
      rw [hnm]
      walk_at "vs"
      intro pt hpt
      have eR11 := same_new (.tup [.str (nm37 (zs.getD 0 0) i), .int v]) hpt _ _ eR9
      walk_at "vs"
      exact ⟨⟨_, _, _, _, rfl⟩, fin _ pt (fun _ _ h => h) hpt⟩
  · intro σ H5 hP
    obtain ⟨⟨t4, t5, t6, t7, rfl⟩, S5, as, ps, eR, hR, hps⟩ := hP
    have cp1 : CPow 10 60 := ⟨by decide, by decide, by decide⟩
    have cp2 : CPow 10 59 := ⟨by decide, by decide, by decide⟩
    have cm5 : CMul 5 (10 ^ (59 : Int).toNat) := .inl ⟨by decide, by decide⟩
    have pl5 := pl4.same S5
    have el := hR.length
    have hpl : ps.length = m := by rw [← List.length_map (f := (·.1)), hps, List.length_map, List.length_range]; omega
    have hlm : (as.map V.ref).length = as.length := List.length_map _
    have hnd : (ps.map (·.1)).Nodup := by rw [hps]; exact nm37_nodup (by omega)
    have hgn : ∀ x ∈ ps, GName x.1 := fun x hx => by
      have : x.1 ∈ ps.map (·.1) := List.mem_map_of_mem hx
      rw [hps] at this
      obtain ⟨j, hj, e⟩ := List.mem_map.mp this
      rw [← e]
      exact nm37_good (by have := List.mem_range.mp hj; omega)
    walk_at "vs"
    intro D hD
    refine comp_list (xs := as.map V.ref) (fun i σ' H' => (∃ t u, σ' = [t, u]) ∧ Same H5 H' ∧ ∃ ns : List Int, H' D = some (.lst (ns.map V.int)) ∧ ns.length = i) ?_ ?_ ?_ ?_
    · exact ⟨⟨none, none, rfl⟩, same_new _ hD, [], upd_same, rfl⟩
    · intro i σ' H' _ hP
      exact SqL.of (hP.2.1 _ _ eR)
    · intro i x σ' H' hx hP
      obtain ⟨⟨t, u, rfl⟩, hs, ns, eD, hln⟩ := hP
      have hi : i < (as.map V.ref).length := (List.getElem?_eq_some_iff.mp hx).1
      obtain ⟨b, hb, rfl⟩ := ref_at hx
      obtain ⟨pb, hpb, eb⟩ := hR.get i b hb
      have eb' := hs _ _ eb
      have hz : (ns.map V.int).length < sizeLine := by
        rw [List.length_map]; exact small1000 (by omega)
      walk_at "vs"
      exact ⟨⟨_, _, rfl⟩, same_updN _ hD hs, ns ++ [pb.2], by rw [upd_same, List.map_append]; rfl, by rw [List.length_append, hln]; rfl⟩
    intro σ'' H6 hP
    obtain ⟨_, s6, ns, eN, hln⟩ := hP
    have pl6 := pl5.same s6
    walk_at "vs"
    intro n7 H7 n70 n71 b7 pl7
    have S7 := but_same (S4.trans (S5.trans s6)) fr b7
    have tp7 := pl6.tups b7
    have eR7 : H7 pr = some (.lst (as.map V.ref)) := b7 _ _ (by simpa using Ne.symm (fun z => by subst z; obtain ⟨_, _, _, e, _⟩ := pl5; rw [eR] at e; cases e)) (s6 _ _ eR)
    have hR7 := (hR.same s6).tups tp7
    walk_at "vs"
    intro pw hpw
    have s8 := same_new (.lst [V.int ns.sum, V.int (n7 - 5 * 10 ^ (59 : Int).toNat)]) hpw
    have pl8 := pl7.same s8
    walk_at "vs"
    intro n9 H9 n90 n91 b9 pl9
    have S9 := but_same (S7.trans s8) fr b9
    have tp9 := pl8.tups b9
    have ez : H9 pw = some (.lst [V.int ns.sum, V.int (n7 - 5 * 10 ^ (59 : Int).toNat)]) := b9 pw _ (by simpa using pl7.ne hpw) upd_same
    have eR9 : H9 pr = some (.lst (as.map V.ref)) := b9 _ _ (by simpa using Ne.symm (fun z => by subst z; obtain ⟨_, _, _, e, _⟩ := pl5; rw [eR] at e; cases e)) (s8 _ _ eR7)
    have hR9 := (hR7.same s8).tups tp9
    obtain ⟨wo, hwo⟩ : ∃ wo : Int, atI [V.int ns.sum, V.int (n7 - 5 * 10 ^ (59 : Int).toNat)] n9 = some (.int wo) := by
      have hc : n9 = 0 ∨ n9 = 1 := by omega
      rcases hc with rfl | rfl
      · exact ⟨_, rfl⟩
      · exact ⟨_, rfl⟩
    clear cp1 cp2 cm5 b9 b7 pl9 pl8 pl7 pl6 pl5 s8 S7 s6
    walk_at "vs"
    intro a1 r1 H10 s10 R1 g1 d1
    walk_at "vs"
    intro pt hpt
    have s11 := same_new (.tup [V.ref a1, V.ref pr, V.int wo]) hpt
    exact q pt a1 pr r1 as ps wo _ (S9.trans (s10.trans s11)) upd_same (R1.same s11) g1 d1 (s11 _ _ (s10 _ _ eR9)) (hR9.same (s10.trans s11)) (by omega) (by omega) hnd hgn
end

section
variable {P : Program} {w : World} {K : PySem.W.Frag} {mg : Str → Option Value} {base : Heap}
noncomputable abbrev s_law_parts : Stmt := top 38
theorem sc_law_parts : FnScope ["r", "inner", "parts"] ["r"] (defScope s_law_parts) := ⟨rfl, rfl, rfl, by decide +kernel, rfl, by decide +kernel, by decide +kernel⟩
theorem gl_law_parts_len : (defScope s_law_parts).names.lookup ("len" : Str) = some NameKind.globalImplicit := by decide +kernel
theorem vo_law_parts_r : VarOk (defScope s_law_parts) "r" := by decide +kernel
theorem nn_law_parts_len : ("len" : Str) ≠ "__name__" := by decide +kernel
theorem db_law_parts_len : (("len" : Str) == ("__debug__" : Str)) = false := by decide +kernel
theorem gl_law_parts_isinstance : (defScope s_law_parts).names.lookup ("isinstance" : Str) = some NameKind.globalImplicit := by decide +kernel
theorem gl_law_parts_tuple : (defScope s_law_parts).names.lookup ("tuple" : Str) = some NameKind.globalImplicit := by decide +kernel
theorem nn_law_parts_tuple : ("tuple" : Str) ≠ "__name__" := by decide +kernel
theorem db_law_parts_tuple : (("tuple" : Str) == ("__debug__" : Str)) = false := by decide +kernel
theorem nn_law_parts_isinstance : ("isinstance" : Str) ≠ "__name__" := by decide +kernel
theorem db_law_parts_isinstance : (("isinstance" : Str) == ("__debug__" : Str)) = false := by decide +kernel
theorem gl_law_parts_int : (defScope s_law_parts).names.lookup ("int" : Str) = some NameKind.globalImplicit := by decide +kernel
theorem gl_law_parts_bool : (defScope s_law_parts).names.lookup ("bool" : Str) = some NameKind.globalImplicit := by decide +kernel
theorem nn_law_parts_bool : ("bool" : Str) ≠ "__name__" := by decide +kernel
theorem db_law_parts_bool : (("bool" : Str) == ("__debug__" : Str)) = false := by decide +kernel
theorem nn_law_parts_int : ("int" : Str) ≠ "__name__" := by decide +kernel
theorem db_law_parts_int : (("int" : Str) == ("__debug__" : Str)) = false := by decide +kernel
theorem gl_law_parts_str : (defScope s_law_parts).names.lookup ("str" : Str) = some NameKind.globalImplicit := by decide +kernel
theorem nn_law_parts_str : ("str" : Str) ≠ "__name__" := by decide +kernel
theorem db_law_parts_str : (("str" : Str) == ("__debug__" : Str)) = false := by decide +kernel
theorem lo_law_parts_inner : Loc (defScope s_law_parts) "inner" := by decide +kernel
theorem gl_law_parts_list : (defScope s_law_parts).names.lookup ("list" : Str) = some NameKind.globalImplicit := by decide +kernel
theorem nn_law_parts_list : ("list" : Str) ≠ "__name__" := by decide +kernel
theorem db_law_parts_list : (("list" : Str) == ("__debug__" : Str)) = false := by decide +kernel
theorem lo_law_parts_parts : Loc (defScope s_law_parts) "parts" := by decide +kernel
theorem vo_law_parts_inner : VarOk (defScope s_law_parts) "inner" := by decide +kernel
theorem db_law_parts__law_parts : (("_law_parts" : Str) == ("__debug__" : Str)) = false := by decide +kernel
theorem vo_law_parts_parts : VarOk (defScope s_law_parts) "parts" := by decide +kernel
theorem gl_law_parts_max : (defScope s_law_parts).names.lookup ("max" : Str) = some NameKind.globalImplicit := by decide +kernel
theorem nn_law_parts_max : ("max" : Str) ≠ "__name__" := by decide +kernel
theorem db_law_parts_max : (("max" : Str) == ("__debug__" : Str)) = false := by decide +kernel
theorem gl_law_parts_sum : (defScope s_law_parts).names.lookup ("sum" : Str) = some NameKind.globalImplicit := by decide +kernel
theorem nn_law_parts_sum : ("sum" : Str) ≠ "__name__" := by decide +kernel
theorem db_law_parts_sum : (("sum" : Str) == ("__debug__" : Str)) = false := by decide +kernel
theorem step_law_parts {d : Nat} {f : Addr} {fd : FuncData} (T_law_parts : FnT K mg "_law_parts" s_law_parts ["r"] f fd)
    (G_law_parts : FnOk P w K mg base CX0 (1 + d) f fd ["r"] (spParts d)) (T : Blt mg) : FnOk P w K mg base CX0 (1 + d + 1) f fd ["r"] (spParts (d + 1)) := by
  refine T_law_parts.F.okQ sc_law_parts (fun vs H Q E h => ?_) (fun cdv A outer s H vs Q E hr h => ?_)
  · obtain ⟨a, r, rfl, _⟩ := h
    rfl
  obtain ⟨a, r, rfl, hR, hg, hpl, hdp, hd8, q⟩ := h
  refine ⟨_, (qss_cons (qs_if (qt_w (qw_or (qt_not (qt_val (qe_callB qc_isi gl_law_parts_isinstance T.b_isinstance bt_isinstance (qa_N (qe_var 0 vo_law_parts_r) (qa_N (qe_bltn (v := .ty "tuple") gl_law_parts_tuple T.b_tuple bt_tuple rfl nn_law_parts_tuple db_law_parts_tuple) qa_nil)) nn_law_parts_isinstance db_law_parts_isinstance))) (qw_or1 (qt_cmp qop_lt (qe_callB qc_len_seq gl_law_parts_len T.b_len bt_len (qa_N (qe_var 0 vo_law_parts_r) qa_nil) nn_law_parts_len db_law_parts_len) qe_int (nomarkQ _))))) (qss_one (qs_ret (qe_lst (qa_C qe_int (qa_C qe_int qa_nil))))) qss_nil)
    (qss_cons (qs_if (qt_w (qw_and (qt_cmp qop_eq (qe_ix qix_tup (qe_var 0 vo_law_parts_r) qe_int) qe_str (nomarkQ _)) (qw_and1 (qt_cmp qop_eq (qe_callB qc_len_seq gl_law_parts_len T.b_len bt_len (qa_N (qe_var 0 vo_law_parts_r) qa_nil) nn_law_parts_len db_law_parts_len) qe_int (nomarkQ _))))) (qss_one (qs_ret (qe_lst (qa_F (qe_callTy qc_intB gl_law_parts_int T.b_int bt_int (qa_O (qe_and (qe_callB qc_isi gl_law_parts_isinstance T.b_isinstance bt_isinstance (qa_S (qe_ix qix_tup (qe_var 0 vo_law_parts_r) qe_int) (qa_N (qe_bltn (v := .ty "int") gl_law_parts_int T.b_int bt_int rfl nn_law_parts_int db_law_parts_int) qa_nil)) nn_law_parts_isinstance db_law_parts_isinstance) (qe_one (qe_not (qe_callB qc_isi gl_law_parts_isinstance T.b_isinstance bt_isinstance (qa_S (qe_ix qix_tup (qe_var 0 vo_law_parts_r) qe_int) (qa_N (qe_bltn (v := .ty "bool") gl_law_parts_bool T.b_bool bt_bool rfl nn_law_parts_bool db_law_parts_bool) qa_nil)) nn_law_parts_isinstance db_law_parts_isinstance)))) qa_nil) nn_law_parts_int db_law_parts_int) (qa_C qe_int qa_nil))))) qss_nil)
    (qss_cons (qs_if (qt_w (qw_and (qt_cmp qop_eq (qe_ix qix_tup (qe_var 0 vo_law_parts_r) qe_int) qe_str (nomarkQ _)) (qw_and1 (qt_cmp qop_eq (qe_callB qc_len_seq gl_law_parts_len T.b_len bt_len (qa_N (qe_var 0 vo_law_parts_r) qa_nil) nn_law_parts_len db_law_parts_len) qe_int (nomarkQ _))))) (qss_one (qs_ret (qe_lst (qa_F (qe_callTy qc_intB gl_law_parts_int T.b_int bt_int (qa_F (qe_callB qc_isi gl_law_parts_isinstance T.b_isinstance bt_isinstance (qa_S (qe_ix qix_tup (qe_var 0 vo_law_parts_r) qe_int) (qa_N (qe_bltn (v := .ty "str") gl_law_parts_str T.b_str bt_str rfl nn_law_parts_str db_law_parts_str) qa_nil)) nn_law_parts_isinstance db_law_parts_isinstance) qa_nil) nn_law_parts_int db_law_parts_int) (qa_C qe_int qa_nil))))) qss_nil)
    (qss_cons (qs_set (i := 1) sc_law_parts.nd rfl lo_law_parts_inner (qe_callTy qc_list_of gl_law_parts_list T.b_list bt_list (qa_S (qe_slice qsl_tup (qe_var 0 vo_law_parts_r) (qo_some qe_int) qo_none) qa_nil) nn_law_parts_list db_law_parts_list))
    (qss_cons (qs_if (qt_w (qw_and (qt_cmp qop_eq (qe_ix qix_tup (qe_var 0 vo_law_parts_r) qe_int) qe_str (nomarkQ _)) (qw_and (qt_cmp qop_eq (qe_callB qc_len_seq gl_law_parts_len T.b_len bt_len (qa_N (qe_var 0 vo_law_parts_r) qa_nil) nn_law_parts_len db_law_parts_len) qe_int (nomarkQ _)) (qw_and (qt_val (qe_callB qc_isi gl_law_parts_isinstance T.b_isinstance bt_isinstance (qa_S (qe_ix qix_tup (qe_var 0 vo_law_parts_r) qe_int) (qa_N (qe_bltn (v := .ty "tuple") gl_law_parts_tuple T.b_tuple bt_tuple rfl nn_law_parts_tuple db_law_parts_tuple) qa_nil)) nn_law_parts_isinstance db_law_parts_isinstance)) (qw_and (qt_cmp qop_lt qe_int (qe_callB qc_len_seq gl_law_parts_len T.b_len bt_len (qa_S (qe_ix qix_tup (qe_var 0 vo_law_parts_r) qe_int) qa_nil) nn_law_parts_len db_law_parts_len) (nomarkQ _)) (qw_and1 (qt_cmp qop_lt (qe_callB qc_len_seq gl_law_parts_len T.b_len bt_len (qa_S (qe_ix qix_tup (qe_var 0 vo_law_parts_r) qe_int) qa_nil) nn_law_parts_len db_law_parts_len) qe_int (nomarkQ _)))))))) (qss_one (qs_set (i := 1) sc_law_parts.nd rfl lo_law_parts_inner (qe_lst (qa_S (qe_ix qix_tup (qe_var 0 vo_law_parts_r) qe_int) qa_nil)))) (qss_one (qs_if (qt_cmp (qop_notInW hr.units) (qe_lst (qa_S (qe_ix qix_tup (qe_var 0 vo_law_parts_r) qe_int) (qa_F (qe_callB qc_len_seq gl_law_parts_len T.b_len bt_len (qa_N (qe_var 0 vo_law_parts_r) qa_nil) nn_law_parts_len db_law_parts_len) qa_nil))) (qe_lst (qa_L (qe_lst (qa_C qe_str (qa_C qe_int qa_nil))) (qa_L (qe_lst (qa_C qe_str (qa_C qe_int qa_nil))) (qa_L (qe_lst (qa_C qe_str (qa_C qe_int qa_nil))) (qa_L (qe_lst (qa_C qe_str (qa_C qe_int qa_nil))) (qa_L (qe_lst (qa_C qe_str (qa_C qe_int qa_nil))) qa_nil)))))) rfl) (qss_one (qs_ret (qe_lst (qa_C qe_int (qa_C qe_int qa_nil))))) qss_nil)))
    (qss_cons (qs_setcomp (i := 2) rfl sc_law_parts.nd rfl lo_law_parts_parts (n := 1) (fr := []) (N := ["one"]) (cs_mk (scX := defScope s_law_parts) (NX := ["r", "inner", "parts"]) rfl rfl (by decide +kernel)) (qi_list (qe_var 1 vo_law_parts_inner)) (fun _ _ _ _ _ => (qgx (i := 0) (show List.Nodup (α := Str) ["one"] by decide) (locC (by decide +kernel)))) (fun _ _ _ _ _ => qi_nil) (fun _ _ _ _ _ => (qe_call (G_law_parts.mono (by omega)) hr (glC (by decide +kernel)) T_law_parts.m T_law_parts.F.kp T_law_parts.b .nil pass0 (qa_N (qe_var 0 (VarC.ok (by decide +kernel))) qa_nil) db_law_parts__law_parts)) rfl)
    (qss_cons (qs_if (qt_cmp (qop_neSame hr.units) (qe_comp rfl (n := 1) (fr := []) (N := ["part"]) (cs_mk (scX := defScope s_law_parts) (NX := ["r", "inner", "parts"]) rfl rfl (by decide +kernel)) (qi_list (qe_var 2 vo_law_parts_parts)) (fun _ _ _ _ _ => (qgx (i := 0) (show List.Nodup (α := Str) ["part"] by decide) (locC (by decide +kernel)))) (fun _ _ _ _ _ => (qi_one (qt_cmp qop_eq (qe_ix (qix_listK (K := K) rfl) (qe_var 0 (VarC.ok (by decide +kernel))) qe_int) qe_int (nomarkQ _)))) (fun _ _ _ _ _ => (qe_var 0 (VarC.ok (by decide +kernel))))) (qe_lst qa_nil) (nomarkQ _)) (qss_one (qs_ret (qe_lst (qa_C qe_int (qa_C qe_int qa_nil))))) qss_nil)
    (qss_one (qs_ret (qe_lst (qa_B (qe_op qop_add qe_int (qe_callB (qc_sumG rfl) gl_law_parts_sum T.b_sum bt_sum (qa_M (qe_comp rfl (n := 1) (fr := []) (N := ["part"]) (cs_mk (scX := defScope s_law_parts) (NX := ["r", "inner", "parts"]) rfl rfl (by decide +kernel)) (qi_list (qe_var 2 vo_law_parts_parts)) (fun _ _ _ _ _ => (qgx (i := 0) (show List.Nodup (α := Str) ["part"] by decide) (locC (by decide +kernel)))) (fun _ _ _ _ _ => qi_nil) (fun _ _ _ _ _ => (qe_ix (qix_listK (K := K) rfl) (qe_var 0 (VarC.ok (by decide +kernel))) qe_int))) qa_nil) nn_law_parts_sum db_law_parts_sum)) (qa_B (qe_op qop_add qe_int (qe_callB (qc_maxL rfl) gl_law_parts_max T.b_max bt_max (qa_M (qe_comp rfl (n := 1) (fr := []) (N := ["part"]) (cs_mk (scX := defScope s_law_parts) (NX := ["r", "inner", "parts"]) rfl rfl (by decide +kernel)) (qi_list (qe_var 2 vo_law_parts_parts)) (fun _ _ _ _ _ => (qgx (i := 0) (show List.Nodup (α := Str) ["part"] by decide) (locC (by decide +kernel)))) (fun _ _ _ _ _ => qi_nil) (fun _ _ _ _ _ => (qe_ix (qix_listK (K := K) rfl) (qe_var 0 (VarC.ok (by decide +kernel))) qe_int))) qa_nil) nn_law_parts_max db_law_parts_max)) qa_nil)))))))))))), ?_⟩
  cases hR with
  | @num _ nn e =>
    walk_at "vs"
    intro p hp
    exact q p _ (same_new _ hp) upd_same
  | @rd _ x e =>
    walk_at "vs"
    intro p hp
    exact q p _ (same_new _ hp) upd_same
  | @bin _ x y op r1 r2 e h1 h2 =>
    obtain ⟨hop, pl1, pl2⟩ := hpl
    subst hop
    have hd' : max r1.depth r2.depth + 1 ≤ d + 1 := hdp
    walk_at "vs"
    intro p1 hp1
    have hcut : cutV [V.str Op.plus.word, V.ref x, V.ref y] (some 1) none = [V.ref x, V.ref y] := rfl
    rw [hcut]
    have s1 := same_new (.tup [V.ref x, V.ref y]) hp1
    have e1 := s1 _ _ e
    have et : upd H p1 (.tup [V.ref x, V.ref y]) p1 = some (.tup [V.ref x, V.ref y]) := upd_same
    generalize upd H p1 (.tup [V.ref x, V.ref y]) = H1 at *
    walk_at "vs"
    intro inn hinn
    have s2 := same_new (.lst [V.ref x, V.ref y]) hinn
    have e2 := s2 _ _ e1
    have eI : upd H1 inn (.lst [V.ref x, V.ref y]) inn = some (.lst [V.ref x, V.ref y]) := upd_same
    have S2 := s1.trans s2
    generalize upd H1 inn (.lst [V.ref x, V.ref y]) = H2 at *
    walk_at "vs"
    intro p3 hp3
    have s3 := same_new (.lst [V.str Op.plus.word, V.int 3]) hp3
    have k1 : upd H2 p3 (.lst [V.str Op.plus.word, V.int 3]) p3 = some (.lst [V.str Op.plus.word, V.int 3]) := upd_same
    have S3 := S2.trans s3
    have eI3 := s3 _ _ eI
    walk_at "vs"
    rw [show (V.int ((([V.str Op.plus.word, V.ref x, V.ref y] : List V).length : Nat) : Int)) = V.int 3 from rfl]
    generalize upd H2 p3 (.lst [V.str Op.plus.word, V.int 3]) = H3 at *
    intro p4 hp4
    have s4 := same_new (.lst [V.str "plus", V.int 3]) hp4
    have k1 := s4 _ _ k1
    have eI3 := s4 _ _ eI3
    have S3 := S3.trans s4
    have k2 : upd H3 p4 (.lst [V.str "plus", V.int 3]) p4 = some (.lst [V.str "plus", V.int 3]) := upd_same
    generalize upd H3 p4 (.lst [V.str "plus", V.int 3]) = H4 at *
    clear hp4 s4
    walk_at "vs"
    intro p5 hp5
    have s5 := same_new (.lst [V.str "minus", V.int 3]) hp5
    have k1 := s5 _ _ k1
    have k2 := s5 _ _ k2
    have eI3 := s5 _ _ eI3
    have S3 := S3.trans s5
    have k3 : upd H4 p5 (.lst [V.str "minus", V.int 3]) p5 = some (.lst [V.str "minus", V.int 3]) := upd_same
    generalize upd H4 p5 (.lst [V.str "minus", V.int 3]) = H5 at *
    clear hp5 s5
    walk_at "vs"
    intro p6 hp6
    have s6 := same_new (.lst [V.str "times", V.int 3]) hp6
    have k1 := s6 _ _ k1
    have k2 := s6 _ _ k2
    have k3 := s6 _ _ k3
    have eI3 := s6 _ _ eI3
    have S3 := S3.trans s6
    have k4 : upd H5 p6 (.lst [V.str "times", V.int 3]) p6 = some (.lst [V.str "times", V.int 3]) := upd_same
    generalize upd H5 p6 (.lst [V.str "times", V.int 3]) = H6 at *
    clear hp6 s6
    walk_at "vs"
    intro p7 hp7
    have s7 := same_new (.lst [V.str "most", V.int 3]) hp7
    have k1 := s7 _ _ k1
    have k2 := s7 _ _ k2
    have k3 := s7 _ _ k3
    have k4 := s7 _ _ k4
    have eI3 := s7 _ _ eI3
    have S3 := S3.trans s7
    have k5 : upd H6 p7 (.lst [V.str "most", V.int 3]) p7 = some (.lst [V.str "most", V.int 3]) := upd_same
    generalize upd H6 p7 (.lst [V.str "most", V.int 3]) = H7 at *
    clear hp7 s7
    walk_at "vs"
    intro p8 hp8
    have s8 := same_new (.lst [V.str "pick", V.int 4]) hp8
    have k1 := s8 _ _ k1
    have k2 := s8 _ _ k2
    have k3 := s8 _ _ k3
    have k4 := s8 _ _ k4
    have k5 := s8 _ _ k5
    have eI3 := s8 _ _ eI3
    have S3 := S3.trans s8
    have k6 : upd H7 p8 (.lst [V.str "pick", V.int 4]) p8 = some (.lst [V.str "pick", V.int 4]) := upd_same
    generalize upd H7 p8 (.lst [V.str "pick", V.int 4]) = H8 at *
    clear hp8 s8
    walk_at "vs"
    intro p9 hp9
    have s9 := same_new (.lst [V.ref p4, V.ref p5, V.ref p6, V.ref p7, V.ref p8]) hp9
    have k1 := s9 _ _ k1
    have k2 := s9 _ _ k2
    have k3 := s9 _ _ k3
    have k4 := s9 _ _ k4
    have k5 := s9 _ _ k5
    have k6 := s9 _ _ k6
    have S2 := S3.trans s9
    have eI : upd H8 p9 (.lst [V.ref p4, V.ref p5, V.ref p6, V.ref p7, V.ref p8]) inn = some (.lst ([x, y].map V.ref)) := s9 _ _ eI3
    have k9 : upd H8 p9 (.lst [V.ref p4, V.ref p5, V.ref p6, V.ref p7, V.ref p8]) p9 = some (.lst ([p4, p5, p6, p7, p8].map V.ref)) := upd_same
    generalize upd H8 p9 (.lst [V.ref p4, V.ref p5, V.ref p6, V.ref p7, V.ref p8]) = H2 at *
    refine ⟨p3, p9, [p4, p5, p6, p7, p8], [("plus", 3), ("minus", 3), ("times", 3), ("most", 3), ("pick", 4)], ("plus", 3), rfl, rfl, k1, SqL.of k9, .cons k2 (.cons k3 (.cons k4 (.cons k5 (.cons k6 .nil)))), by decide +kernel, by decide +kernel, ?_⟩
    rw [show decide ((((("plus" : Str), (3 : Int)) : Rdp) ∈ ([("plus", 3), ("minus", 3), ("times", 3), ("most", 3), ("pick", 4)] : List Rdp))) = true from by decide +kernel]
    have hI := IsRs.cons (h1.same S2) (IsRs.cons (h2.same S2) .nil)
    clear k1 k2 k3 k4 k5 k6 k9 S3 s9 hp9 eI3 s3 s2 et e1 e2 s1 hp1 hinn hp3 hcut
    have hall : ∀ r ∈ [r1, r2], r.GoodN ∧ r.Plus ∧ r.depth ≤ d := by
      intro r hr
      have : r = r1 ∨ r = r2 := by simpa using hr
      rcases this with z | z
      · rw [z]; exact ⟨hg.1, pl1, by omega⟩
      · rw [z]; exact ⟨hg.2, pl2, by omega⟩
    have hr0 : 0 < [r1, r2].length := Nat.zero_lt_succ _
    have hr9 : [r1, r2].length ≤ 9 := by simp
    have hnn : ((R.bin Op.plus r1 r2).nodes : Int) = 1 + ([r1, r2].map fun r => (r.nodes : Int)).sum := by
      show ((1 + r1.nodes + r2.nodes : Nat) : Int) = 1 + ((r1.nodes : Int) + ((r2.nodes : Int) + 0)); omega
    have hdd : ∀ M, M ∈ [r1, r2].map (fun r => (r.depth : Int)) → (∀ a, a ∈ [r1, r2].map (fun r => (r.depth : Int)) → a ≤ M) → ((R.bin Op.plus r1 r2).depth : Int) = 1 + M := by
      intro M hM hM2
      have h1 : M = (r1.depth : Int) ∨ M = (r2.depth : Int) := by simpa using hM
      have h2 := hM2 (r1.depth : Int) (by simp)
      have h3 := hM2 (r2.depth : Int) (by simp)
      show ((max r1.depth r2.depth + 1 : Nat) : Int) = 1 + M
      omega
    generalize [x, y] = is at *
    generalize [r1, r2] = rs at *
    have hll : is.length = rs.length := IsRs.length hI
    have hlm : (is.map V.ref).length = is.length := List.length_map _
    walk_at "vs"
    intro D hD
    refine comp_list (xs := is.map V.ref) (fun i σ' H' => (∃ t, σ' = [t]) ∧ Same H2 H' ∧ ∃ ls, H' D = some (.lst (ls.map V.ref)) ∧ IsPs H' ls (rs.take i)) ?_ ?_ ?_ ?_
    · exact ⟨⟨none, rfl⟩, same_new _ hD, [], upd_same, .nil⟩
    · intro i σ' H' _ hP
      exact SqL.of (hP.2.1 _ _ eI)
    · intro i x' σ' H' hx hP
      obtain ⟨⟨t, rfl⟩, hs, ls, eD, hls⟩ := hP
      have hi : i < (is.map V.ref).length := (List.getElem?_eq_some_iff.mp hx).1
      obtain ⟨b, hb, rfl⟩ := ref_at hx
      obtain ⟨rb, hrb, Rb⟩ := IsRs.get2 hI i b hb
      have Rb' := Rb.same hs
      obtain ⟨g1, g2, g3⟩ := hall rb (List.mem_of_getElem? hrb)
      have hz : (ls.map V.ref).length < sizeLine := by
        rw [List.length_map, hls.length, List.length_take]; exact small1000 (by omega)
      walk_at "vs"
      intro l5 H5 s5 el5
      have eD5 := s5 _ _ eD
      refine ⟨_, eD5, hz, ⟨_, rfl⟩, same_updN _ hD (hs.trans s5), ls ++ [l5], by rw [upd_same, List.map_append]; rfl, ?_⟩
      rw [List.take_succ, hrb]
      exact ((hls.same s5).snoc el5).set eD5
    intro σ' H3 hP
    obtain ⟨_, s3, ls, eL, hls⟩ := hP
    rw [hlm, hll, List.take_length] at hls
    have hl3 : ls.length = rs.length := hls.length
    have hlm3 : (ls.map V.ref).length = ls.length := List.length_map _
    walk_at "vs"
    intro D2 hD2
    refine comp_list (xs := ls.map V.ref) (fun i σ' H' => (∃ t, σ' = [t]) ∧ Same H3 H' ∧ H' D2 = some (.lst [])) ?_ ?_ ?_ ?_
    · exact ⟨⟨none, rfl⟩, same_new _ hD2, upd_same⟩
    · intro i σ' H' _ hP
      exact SqL.of (hP.2.1 _ _ eL)
    · intro i x' σ' H' hx hP
      obtain ⟨⟨t, rfl⟩, hs, eD⟩ := hP
      obtain ⟨b, hb, rfl⟩ := ref_at hx
      obtain ⟨rb, hrb, eb⟩ := hls.get i b hb
      have eb' : H' b = some (.lst [.int (rb.nodes : Int), .int (rb.depth : Int)]) := hs _ _ eb
      have hn := R.nodes1 rb
      walk_at "vs"
      refine ite2 (fun c1 => ?_) (fun c1 => ?_)
      · have c1' : (rb.nodes : Int) = 0 := by simpa using c1
        omega
      · exact ⟨⟨_, rfl⟩, hs, eD⟩
    intro σ' H4 hP
    obtain ⟨_, s4, eN⟩ := hP
    walk_at "vs"
    intro p9 hp9
    have s5 := same_new (.lst []) hp9
    refine ⟨.list [], .lst (SqL.of (s5 _ _ eN)) .nil, .lst (SqL.of upd_same) .nil, rfl, ?_⟩
    have eL5 := s5 _ _ (s4 _ _ eL)
    have hls5 := hls.same (s4.trans s5)
    have S5 := S2.trans (s3.trans (s4.trans s5))
    generalize upd H4 p9 (.lst []) = H5 at *
    clear s5 eN s4 eL hls s3 eI hI hp9 hD hD2
    walk_at "vs"
    intro D3 hD3
    refine comp_list (xs := ls.map V.ref) (fun i σ' H' => (∃ t, σ' = [t]) ∧ Same H5 H' ∧ H' D3 = some (.lst (((rs.map fun r => (r.nodes : Int)).take i).map V.int))) ?_ ?_ ?_ ?_
    · exact ⟨⟨none, rfl⟩, same_new _ hD3, upd_same⟩
    · intro i σ' H' _ hP
      exact SqL.of (hP.2.1 _ _ eL5)
    · intro i x' σ' H' hx hP
      obtain ⟨⟨t, rfl⟩, hs, eD⟩ := hP
      have hi : i < (ls.map V.ref).length := (List.getElem?_eq_some_iff.mp hx).1
      obtain ⟨b, hb, rfl⟩ := ref_at hx
      obtain ⟨rb, hrb, eb⟩ := hls5.get i b hb
      have eb' : H' b = some (.lst [.int (rb.nodes : Int), .int (rb.depth : Int)]) := hs _ _ eb
      have hz : (((rs.map fun r => (r.nodes : Int)).take i).map V.int).length < sizeLine := by
        rw [List.length_map, List.length_take, List.length_map]; exact small1000 (by omega)
      walk_at "vs"
      refine ⟨⟨_, rfl⟩, same_updN _ hD3 hs, ?_⟩
      rw [upd_same, List.take_succ, List.getElem?_map, hrb, List.map_append]; rfl
    intro σ' H6 hP
    obtain ⟨_, s6, eS⟩ := hP
    rw [hlm3, hl3, show rs.length = (rs.map fun r => (r.nodes : Int)).length from (List.length_map _).symm, List.take_length] at eS
    have eL6 := s6 _ _ eL5
    have hls6 := hls5.same s6
    walk_at "vs"
    intro D4 hD4
    refine comp_list (xs := ls.map V.ref) (fun i σ' H' => (∃ t, σ' = [t]) ∧ Same H6 H' ∧ H' D4 = some (.lst (((rs.map fun r => (r.depth : Int)).take i).map V.int))) ?_ ?_ ?_ ?_
    · exact ⟨⟨none, rfl⟩, same_new _ hD4, upd_same⟩
    · intro i σ' H' _ hP
      exact SqL.of (hP.2.1 _ _ eL6)
    · intro i x' σ' H' hx hP
      obtain ⟨⟨t, rfl⟩, hs, eD⟩ := hP
      have hi : i < (ls.map V.ref).length := (List.getElem?_eq_some_iff.mp hx).1
      obtain ⟨b, hb, rfl⟩ := ref_at hx
      obtain ⟨rb, hrb, eb⟩ := hls6.get i b hb
      have eb' : H' b = some (.lst [.int (rb.nodes : Int), .int (rb.depth : Int)]) := hs _ _ eb
      have hz : (((rs.map fun r => (r.depth : Int)).take i).map V.int).length < sizeLine := by
        rw [List.length_map, List.length_take, List.length_map]; exact small1000 (by omega)
      walk_at "vs"
      refine ⟨⟨_, rfl⟩, same_updN _ hD4 hs, ?_⟩
      rw [upd_same, List.take_succ, List.getElem?_map, hrb, List.map_append]; rfl
    intro σ' H7 hP
    obtain ⟨_, s7, eM⟩ := hP
    rw [hlm3, hl3, show rs.length = (rs.map fun r => (r.depth : Int)).length from (List.length_map _).symm, List.take_length] at eM
    have hm0 : 0 < (rs.map fun r => (r.depth : Int)).length := by rw [List.length_map]; exact hr0
    walk_at "vs"
    intro M hM1 hM2
    walk_at "vs"
    intro p10 hp10
    have hdq := hdd M hM1 hM2
    exact q p10 _ (S5.trans (s6.trans (s7.trans (same_new _ hp10)))) (by rw [upd_same, hnn, hdq])
  | @pick _ x y z r1 r2 r3 e h1 h2 h3 => exact hpl.elim
  | @cho _ x y r1 xs e h1 h2 =>
    obtain ⟨hg1, hx1, hx2, hx3⟩ := hg
    have hpl1 : r1.Plus := hpl
    have hd1 : r1.depth + 1 ≤ d + 1 := hdp
    have hlx : (xs.map V.str).length = xs.length := List.length_map _
    walk_at "vs"
    intro p1 hp1
    have hcut : cutV [V.str "choose", V.ref x, V.ref y] (some 1) none = [V.ref x, V.ref y] := rfl
    rw [hcut]
    have s1 := same_new (.tup [V.ref x, V.ref y]) hp1
    have e1 := s1 _ _ e
    have h21 := s1 _ _ h2
    have et : upd H p1 (.tup [V.ref x, V.ref y]) p1 = some (.tup [V.ref x, V.ref y]) := upd_same
    generalize upd H p1 (.tup [V.ref x, V.ref y]) = H1 at *
    walk_at "vs"
    intro inn hinn
    have s2' := same_new (.lst [V.ref x, V.ref y]) hinn
    have e2 := s2' _ _ e1
    have h22 := s2' _ _ h21
    have S2' := s1.trans s2'
    generalize upd H1 inn (.lst [V.ref x, V.ref y]) = H2' at *
    walk_at "vs"
    refine ite2 (fun c1 => ?_) (fun c1 => ?_)
    rotate_left
    · have c1' : ¬ 0 < ((xs.map V.str).length : Int) := by simpa using c1
      omega
    walk_at "vs"
    refine ite2 (fun c2 => ?_) (fun c2 => ?_)
    rotate_left
    · have c2' : ¬ ((xs.map V.str).length : Int) < 10 := by simpa using c2
      omega
    walk_at "vs"
    intro in2 hin2
    have s2 := same_new (.lst [V.ref x]) hin2
    have eI : upd H2' in2 (.lst [V.ref x]) in2 = some (.lst ([x].map V.ref)) := upd_same
    have S2 := S2'.trans s2
    have hI := IsRs.cons (h1.same S2) .nil
    generalize upd H2' in2 (.lst [V.ref x]) = H2 at *
    clear s2 h22 e2 S2' s2' hinn et h21 e1 s1 hp1 hcut c1 c2 hin2
    have hall : ∀ r ∈ [r1], r.GoodN ∧ r.Plus ∧ r.depth ≤ d := by
      intro r hr
      have : r = r1 := by simpa using hr
      rw [this]; exact ⟨hg1, hpl1, by omega⟩
    have hr0 : 0 < [r1].length := Nat.one_pos
    have hr9 : [r1].length ≤ 9 := by simp
    have hnn : ((R.cho r1 xs).nodes : Int) = 1 + ([r1].map fun r => (r.nodes : Int)).sum := by
      show ((1 + r1.nodes : Nat) : Int) = 1 + ((r1.nodes : Int) + 0); omega
    have hdd : ∀ M, M ∈ [r1].map (fun r => (r.depth : Int)) → (∀ a, a ∈ [r1].map (fun r => (r.depth : Int)) → a ≤ M) → ((R.cho r1 xs).depth : Int) = 1 + M := by
      intro M hM _
      have : M = (r1.depth : Int) := by simpa using hM
      show ((r1.depth + 1 : Nat) : Int) = 1 + M
      omega
    generalize [x] = is at *
    generalize [r1] = rs at *
    have hll : is.length = rs.length := IsRs.length hI
    have hlm : (is.map V.ref).length = is.length := List.length_map _
    walk_at "vs"
    intro D hD
    refine comp_list (xs := is.map V.ref) (fun i σ' H' => (∃ t, σ' = [t]) ∧ Same H2 H' ∧ ∃ ls, H' D = some (.lst (ls.map V.ref)) ∧ IsPs H' ls (rs.take i)) ?_ ?_ ?_ ?_
    · exact ⟨⟨none, rfl⟩, same_new _ hD, [], upd_same, .nil⟩
    · intro i σ' H' _ hP
      exact SqL.of (hP.2.1 _ _ eI)
    · intro i x' σ' H' hx hP
      obtain ⟨⟨t, rfl⟩, hs, ls, eD, hls⟩ := hP
      have hi : i < (is.map V.ref).length := (List.getElem?_eq_some_iff.mp hx).1
      obtain ⟨b, hb, rfl⟩ := ref_at hx
      obtain ⟨rb, hrb, Rb⟩ := IsRs.get2 hI i b hb
      have Rb' := Rb.same hs
      obtain ⟨g1, g2, g3⟩ := hall rb (List.mem_of_getElem? hrb)
      have hz : (ls.map V.ref).length < sizeLine := by
        rw [List.length_map, hls.length, List.length_take]; exact small1000 (by omega)
      walk_at "vs"
      intro l5 H5 s5 el5
      have eD5 := s5 _ _ eD
      refine ⟨_, eD5, hz, ⟨_, rfl⟩, same_updN _ hD (hs.trans s5), ls ++ [l5], by rw [upd_same, List.map_append]; rfl, ?_⟩
      rw [List.take_succ, hrb]
      exact ((hls.same s5).snoc el5).set eD5
    intro σ' H3 hP
    obtain ⟨_, s3, ls, eL, hls⟩ := hP
    rw [hlm, hll, List.take_length] at hls
    have hl3 : ls.length = rs.length := hls.length
    have hlm3 : (ls.map V.ref).length = ls.length := List.length_map _
    walk_at "vs"
    intro D2 hD2
    refine comp_list (xs := ls.map V.ref) (fun i σ' H' => (∃ t, σ' = [t]) ∧ Same H3 H' ∧ H' D2 = some (.lst [])) ?_ ?_ ?_ ?_
    · exact ⟨⟨none, rfl⟩, same_new _ hD2, upd_same⟩
    · intro i σ' H' _ hP
      exact SqL.of (hP.2.1 _ _ eL)
    · intro i x' σ' H' hx hP
      obtain ⟨⟨t, rfl⟩, hs, eD⟩ := hP
      obtain ⟨b, hb, rfl⟩ := ref_at hx
      obtain ⟨rb, hrb, eb⟩ := hls.get i b hb
      have eb' : H' b = some (.lst [.int (rb.nodes : Int), .int (rb.depth : Int)]) := hs _ _ eb
      have hn := R.nodes1 rb
      walk_at "vs"
      refine ite2 (fun c1 => ?_) (fun c1 => ?_)
      · have c1' : (rb.nodes : Int) = 0 := by simpa using c1
        omega
      · exact ⟨⟨_, rfl⟩, hs, eD⟩
    intro σ' H4 hP
    obtain ⟨_, s4, eN⟩ := hP
    walk_at "vs"
    intro p9 hp9
    have s5 := same_new (.lst []) hp9
    refine ⟨.list [], .lst (SqL.of (s5 _ _ eN)) .nil, .lst (SqL.of upd_same) .nil, rfl, ?_⟩
    have eL5 := s5 _ _ (s4 _ _ eL)
    have hls5 := hls.same (s4.trans s5)
    have S5 := S2.trans (s3.trans (s4.trans s5))
    generalize upd H4 p9 (.lst []) = H5 at *
    clear s5 eN s4 eL hls s3 eI hI hp9 hD hD2
    walk_at "vs"
    intro D3 hD3
    refine comp_list (xs := ls.map V.ref) (fun i σ' H' => (∃ t, σ' = [t]) ∧ Same H5 H' ∧ H' D3 = some (.lst (((rs.map fun r => (r.nodes : Int)).take i).map V.int))) ?_ ?_ ?_ ?_
    · exact ⟨⟨none, rfl⟩, same_new _ hD3, upd_same⟩
    · intro i σ' H' _ hP
      exact SqL.of (hP.2.1 _ _ eL5)
    · intro i x' σ' H' hx hP
      obtain ⟨⟨t, rfl⟩, hs, eD⟩ := hP
      have hi : i < (ls.map V.ref).length := (List.getElem?_eq_some_iff.mp hx).1
      obtain ⟨b, hb, rfl⟩ := ref_at hx
      obtain ⟨rb, hrb, eb⟩ := hls5.get i b hb
      have eb' : H' b = some (.lst [.int (rb.nodes : Int), .int (rb.depth : Int)]) := hs _ _ eb
      have hz : (((rs.map fun r => (r.nodes : Int)).take i).map V.int).length < sizeLine := by
        rw [List.length_map, List.length_take, List.length_map]; exact small1000 (by omega)
      walk_at "vs"
      refine ⟨⟨_, rfl⟩, same_updN _ hD3 hs, ?_⟩
      rw [upd_same, List.take_succ, List.getElem?_map, hrb, List.map_append]; rfl
    intro σ' H6 hP
    obtain ⟨_, s6, eS⟩ := hP
    rw [hlm3, hl3, show rs.length = (rs.map fun r => (r.nodes : Int)).length from (List.length_map _).symm, List.take_length] at eS
    have eL6 := s6 _ _ eL5
    have hls6 := hls5.same s6
    walk_at "vs"
    intro D4 hD4
    refine comp_list (xs := ls.map V.ref) (fun i σ' H' => (∃ t, σ' = [t]) ∧ Same H6 H' ∧ H' D4 = some (.lst (((rs.map fun r => (r.depth : Int)).take i).map V.int))) ?_ ?_ ?_ ?_
    · exact ⟨⟨none, rfl⟩, same_new _ hD4, upd_same⟩
    · intro i σ' H' _ hP
      exact SqL.of (hP.2.1 _ _ eL6)
    · intro i x' σ' H' hx hP
      obtain ⟨⟨t, rfl⟩, hs, eD⟩ := hP
      have hi : i < (ls.map V.ref).length := (List.getElem?_eq_some_iff.mp hx).1
      obtain ⟨b, hb, rfl⟩ := ref_at hx
      obtain ⟨rb, hrb, eb⟩ := hls6.get i b hb
      have eb' : H' b = some (.lst [.int (rb.nodes : Int), .int (rb.depth : Int)]) := hs _ _ eb
      have hz : (((rs.map fun r => (r.depth : Int)).take i).map V.int).length < sizeLine := by
        rw [List.length_map, List.length_take, List.length_map]; exact small1000 (by omega)
      walk_at "vs"
      refine ⟨⟨_, rfl⟩, same_updN _ hD4 hs, ?_⟩
      rw [upd_same, List.take_succ, List.getElem?_map, hrb, List.map_append]; rfl
    intro σ' H7 hP
    obtain ⟨_, s7, eM⟩ := hP
    rw [hlm3, hl3, show rs.length = (rs.map fun r => (r.depth : Int)).length from (List.length_map _).symm, List.take_length] at eM
    have hm0 : 0 < (rs.map fun r => (r.depth : Int)).length := by rw [List.length_map]; exact hr0
    walk_at "vs"
    intro M hM1 hM2
    walk_at "vs"
    intro p10 hp10
    have hdq := hdd M hM1 hM2
    exact q p10 _ (S5.trans (s6.trans (s7.trans (same_new _ hp10)))) (by rw [upd_same, hnn, hdq])
theorem ok_law_parts {f : Addr} {fd : FuncData} (T_law_parts : FnT K mg "_law_parts" s_law_parts ["r"] f fd) (T : Blt mg) : ∀ d, FnOk P w K mg base CX0 (1 + d) f fd ["r"] (spParts d)
  | 0 => never fun vs H Q E h => by
    obtain ⟨a, r, _, _, _, _, hd, _⟩ := h
    have := r.depth_pos
    omega
  | d + 1 => (step_law_parts T_law_parts (ok_law_parts T_law_parts T d) T).imp fun vs H Q E h => h
end

section
variable {P : Program} {w : World} {K : PySem.W.Frag} {mg : Str → Option Value} {base : Heap}
noncomputable abbrev s_law_worked : Stmt := top 39
theorem sc_law_worked : FnScope ["recipe", "numbers", "reads", "worth"] ["recipe", "numbers"] (defScope s_law_worked) := ⟨rfl, rfl, rfl, by decide +kernel, rfl, by decide +kernel, by decide +kernel⟩
theorem lo_law_worked_reads : Loc (defScope s_law_worked) "reads" := by decide +kernel
theorem lo_law_worked_worth : Loc (defScope s_law_worked) "worth" := by decide +kernel
theorem gl_law_worked__law_value : (defScope s_law_worked).names.lookup ("_law_value" : Str) = some NameKind.globalImplicit := by decide +kernel
theorem vo_law_worked_reads : VarOk (defScope s_law_worked) "reads" := by decide +kernel
theorem vo_law_worked_recipe : VarOk (defScope s_law_worked) "recipe" := by decide +kernel
theorem vo_law_worked_numbers : VarOk (defScope s_law_worked) "numbers" := by decide +kernel
theorem db_law_worked__law_value : (("_law_value" : Str) == ("__debug__" : Str)) = false := by decide +kernel
theorem vo_law_worked_worth : VarOk (defScope s_law_worked) "worth" := by decide +kernel
theorem ok_law_worked {f g : Addr} {fd gd : FuncData} (T_law_worked : FnT K mg "_law_worked" s_law_worked ["recipe", "numbers"] f fd) (T_law_value : FnT K mg "_law_value" s_law_value ["house", "r", "state", "reads"] g gd)
    (G_law_value : FnOk P w K mg base CX0 10 g gd ["house", "r", "state", "reads"] (sp37Vl 7)) (T : Blt mg) : FnOk P w K mg base CX0 11 f fd ["recipe", "numbers"] sp37Wk := by
  refine T_law_worked.F.okQ sc_law_worked (fun vs H Q E h => ?_) (fun cdv A outer s H vs Q E hr h => ?_)
  · obtain ⟨b, nd, nm, ns, r, kvn, rfl, _⟩ := h
    rfl
  obtain ⟨b, nd, nm, ns, r, kvn, rfl, hR, hd, hpl, hnn, en, hval, hnl, hgn, q⟩ := h
  refine ⟨_, (qss_cons (qs_set (i := 2) sc_law_worked.nd rfl lo_law_worked_reads (qe_lst qa_nil))
    (qss_cons (qs_set (i := 3) sc_law_worked.nd rfl lo_law_worked_worth (qe_call (G_law_value.mono (by omega)) hr gl_law_worked__law_value T_law_value.m T_law_value.F.kp T_law_value.b .nil pass0 (qa_T (qe_tup (qa_N (qe_var 1 vo_law_worked_numbers) (qa_D qe_dnewK qa_nil))) (qa_N (qe_var 0 vo_law_worked_recipe) (qa_L (qe_lst (qa_D qe_dnewK (qa_D qe_dnewK qa_nil))) (qa_N (qe_var 2 vo_law_worked_reads) qa_nil)))) db_law_worked__law_value))
    (qss_one (qs_ret (qe_lst (qa_N (qe_var 3 vo_law_worked_worth) (qa_N (qe_var 2 vo_law_worked_reads) qa_nil))))))), ?_⟩
  walk_at "vs"
  intro rl hrl
  have e1 : upd H rl (.lst []) rl = some (.lst []) := upd_same
  have s1 := same_new (.lst []) hrl
  have en1 := s1 _ _ en
  have R1 := hR.same s1
  generalize upd H rl (.lst []) = H1 at *
  walk_at "vs"
  intro cd hcd
  have s2 := same_new (.dK []) hcd
  have e2 := s2 _ _ e1
  have en2 := s2 _ _ en1
  have f2 : upd H1 cd (.dK []) cd = some (.dK []) := upd_same
  have S2 := s1.trans s2
  generalize upd H1 cd (.dK []) = H2 at *
  walk_at "vs"
  intro h hh
  have s3 := same_new (.tup [V.ref nd, V.ref cd]) hh
  have e3 := s3 _ _ e2
  have en3 := s3 _ _ en2
  have f3 := s3 _ _ f2
  have g3 : upd H2 h (.tup [V.ref nd, V.ref cd]) h = some (.tup [V.ref nd, V.ref cd]) := upd_same
  have S3 := S2.trans s3
  generalize upd H2 h (.tup [V.ref nd, V.ref cd]) = H3 at *
  walk_at "vs"
  intro wd hwd
  have s4 := same_new (.dK []) hwd
  have e4 := s4 _ _ e3
  have en4 := s4 _ _ en3
  have g4 := s4 _ _ g3
  have k4 : upd H3 wd (.dK []) wd = some (.dK []) := upd_same
  have S4 := S3.trans s4
  have hwd0 : H wd = none := same_none S3 hwd
  have nw : nd ≠ wd := ne_of_none en3 hwd
  generalize upd H3 wd (.dK []) = H4 at *
  walk_at "vs"
  intro rd hrd
  have s5 := same_new (.dK []) hrd
  have e5 := s5 _ _ e4
  have en5 := s5 _ _ en4
  have g5 := s5 _ _ g4
  have k5 := s5 _ _ k4
  have S5 := S4.trans s5
  generalize upd H4 rd (.dK []) = H5 at *
  walk_at "vs"
  intro st hst
  have s6 := same_new (.lst [V.ref wd, V.ref rd]) hst
  have e6 := s6 _ _ e5
  have en6 := s6 _ _ en5
  have g6 := s6 _ _ g5
  have k6 := s6 _ _ k5
  have m6 : upd H5 st (.lst [V.ref wd, V.ref rd]) st = some (.lst [V.ref wd, V.ref rd]) := upd_same
  have S6 := S5.trans s6
  have hrs : rl ≠ st := ne_of_none e5 hst
  have R6 := hR.same S6
  generalize upd H5 st (.lst [V.ref wd, V.ref rd]) = H6 at *
  have hno : ([] : List Rdp).length + r.nodes ≤ 500 := by show 0 + r.nodes ≤ 500; omega
  have a6 : Nm37 H6 h nd cd st wd rd nm ns := ⟨g6, ⟨kvn, en6, hval⟩, m6, ⟨[], [], k6, ⟨rfl, List.nodup_nil⟩, by simp, by simp⟩, hnl, hgn, nw⟩
  have r6 : IsRds H6 [] [] := .nil
  have e6 : H6 rl = some (.lst (([] : List Addr).map V.ref)) := e6
  have gn6 : ∀ p ∈ ([] : List Rdp), GName p.1 := by simp
  walk_at "vs"
  intro as H7 b7 _ el7 hR7
  have S7 : Same H H7 := but_same S6 (by
    intro z hz
    have : z = wd ∨ z = rl := by simpa using hz
    rcases this with z1 | z1
    · rw [z1]; exact hwd0
    · rw [z1]; exact hrl) b7
  walk_at "vs"
  intro l hl
  have s8 := same_new (.lst [V.int (evT nm r), V.ref rl]) hl
  exact q l rl as _ (S7.trans s8) upd_same (s8 _ _ el7) (hR7.same s8)
end

section
variable {P : Program} {w : World} {K : PySem.W.Frag} {mg : Str → Option Value} {base : Heap}
noncomputable abbrev s_law_good : Stmt := top 40
theorem sc_law_good : FnScope ["record", "k", "pool", "recipe", "reads", "worth", "handed", "twin", "parts", "numbers", "way"] ["record", "k", "pool"] (defScope s_law_good) := ⟨rfl, rfl, rfl, by decide +kernel, rfl, by decide +kernel, by decide +kernel⟩
theorem vo_law_good_record : VarOk (defScope s_law_good) "record" := by decide +kernel
theorem lo_law_good_worth : Loc (defScope s_law_good) "worth" := by decide +kernel
theorem lo_law_good_reads : Loc (defScope s_law_good) "reads" := by decide +kernel
theorem lo_law_good_recipe : Loc (defScope s_law_good) "recipe" := by decide +kernel
theorem lo_law_good_handed : Loc (defScope s_law_good) "handed" := by decide +kernel
theorem vo_law_good_worth : VarOk (defScope s_law_good) "worth" := by decide +kernel
theorem gl_law_good_list : (defScope s_law_good).names.lookup ("list" : Str) = some NameKind.globalImplicit := by decide +kernel
theorem vo_law_good_reads : VarOk (defScope s_law_good) "reads" := by decide +kernel
theorem nn_law_good_list : ("list" : Str) ≠ "__name__" := by decide +kernel
theorem db_law_good_list : (("list" : Str) == ("__debug__" : Str)) = false := by decide +kernel
theorem vo_law_good_recipe : VarOk (defScope s_law_good) "recipe" := by decide +kernel
theorem lo_law_good_twin : Loc (defScope s_law_good) "twin" := by decide +kernel
theorem gl_law_good_twin_of : (defScope s_law_good).names.lookup ("twin_of" : Str) = some NameKind.globalImplicit := by decide +kernel
theorem vo_law_good_k : VarOk (defScope s_law_good) "k" := by decide +kernel
theorem vo_law_good_handed : VarOk (defScope s_law_good) "handed" := by decide +kernel
theorem db_law_good_twin_of : (("twin_of" : Str) == ("__debug__" : Str)) = false := by decide +kernel
theorem lo_law_good_parts : Loc (defScope s_law_good) "parts" := by decide +kernel
theorem gl_law_good__law_parts : (defScope s_law_good).names.lookup ("_law_parts" : Str) = some NameKind.globalImplicit := by decide +kernel
theorem vo_law_good_twin : VarOk (defScope s_law_good) "twin" := by decide +kernel
theorem db_law_good__law_parts : (("_law_parts" : Str) == ("__debug__" : Str)) = false := by decide +kernel
theorem vo_law_good_parts : VarOk (defScope s_law_good) "parts" := by decide +kernel
theorem lo_law_good_numbers : Loc (defScope s_law_good) "numbers" := by decide +kernel
theorem gl_law_good_dict : (defScope s_law_good).names.lookup ("dict" : Str) = some NameKind.globalImplicit := by decide +kernel
theorem nn_law_good_dict : ("dict" : Str) ≠ "__name__" := by decide +kernel
theorem db_law_good_dict : (("dict" : Str) == ("__debug__" : Str)) = false := by decide +kernel
theorem gl_law_good__law_worked : (defScope s_law_good).names.lookup ("_law_worked" : Str) = some NameKind.globalImplicit := by decide +kernel
theorem vo_law_good_numbers : VarOk (defScope s_law_good) "numbers" := by decide +kernel
theorem db_law_good__law_worked : (("_law_worked" : Str) == ("__debug__" : Str)) = false := by decide +kernel
theorem gl_law_good_range : (defScope s_law_good).names.lookup ("range" : Str) = some NameKind.globalImplicit := by decide +kernel
theorem lo_law_good_way : Loc (defScope s_law_good) "way" := by decide +kernel
theorem gl_law_good__law_take : (defScope s_law_good).names.lookup ("_law_take" : Str) = some NameKind.globalImplicit := by decide +kernel
theorem vo_law_good_pool : VarOk (defScope s_law_good) "pool" := by decide +kernel
theorem db_law_good__law_take : (("_law_take" : Str) == ("__debug__" : Str)) = false := by decide +kernel
theorem ok_law_good {f g1 g2 g3 g4 : Addr} {fd gd1 gd2 gd3 gd4 : FuncData} (T_law_good : FnT K mg "_law_good" s_law_good ["record", "k", "pool"] f fd)
    (T_twin_of : FnT K mg "twin_of" s_twin_of ["record", "k"] g1 gd1) (G_twin_of : FnOk P w K mg base CX0 6 g1 gd1 ["record", "k"] sp2Twin)
    (T_law_parts : FnT K mg "_law_parts" s_law_parts ["r"] g2 gd2) (G_law_parts : FnOk P w K mg base CX0 9 g2 gd2 ["r"] (spParts 8))
    (T_law_worked : FnT K mg "_law_worked" s_law_worked ["recipe", "numbers"] g3 gd3) (G_law_worked : FnOk P w K mg base CX0 11 g3 gd3 ["recipe", "numbers"] sp37Wk)
    (T_law_take : FnT K mg "_law_take" s_law_take ["pool", "many"] g4 gd4) (G_law_take : FnOk P w K mg base CX0 1 g4 gd4 ["pool", "many"] spTake)
    (T : Blt mg) : FnOk P w K mg base CX0 12 f fd ["record", "k", "pool"] sp37Good := by
  refine T_law_good.F.okQ sc_law_good (fun vs H Q E h => ?_) (fun cdv A outer s H vs Q E hr h => ?_)
  · obtain ⟨t, b, l, p, k, r, as, ps, wo, c, rfl, _⟩ := h
    rfl
  obtain ⟨t, b, l, p, k, r, as, ps, wo, c, rfl, et, hR, hg, hd, el, hRs, hk, h29, hnd, hgn, pl, hc, q⟩ := h
  refine ⟨_, (qss_cons (qs_asg (qe_var 0 vo_law_good_record) (qg_tup rfl (qgs_cons (qg_name (i := 3) sc_law_good.nd rfl lo_law_good_recipe) (qgs_cons (qg_name (i := 4) sc_law_good.nd rfl lo_law_good_reads) (qgs_cons (qg_name (i := 5) sc_law_good.nd rfl lo_law_good_worth) qgs_nil)))))
    (qss_cons (qs_set (i := 6) sc_law_good.nd rfl lo_law_good_handed (qe_tup (qa_N (qe_var 3 vo_law_good_recipe) (qa_F (qe_callTy qc_list_of gl_law_good_list T.b_list bt_list (qa_N (qe_var 4 vo_law_good_reads) qa_nil) nn_law_good_list db_law_good_list) (qa_N (qe_var 5 vo_law_good_worth) qa_nil)))))
    (qss_cons (qs_set (i := 7) sc_law_good.nd rfl lo_law_good_twin (qe_call (G_twin_of.mono (by omega)) hr gl_law_good_twin_of T_twin_of.m T_twin_of.F.kp T_twin_of.b .nil pass0 (qa_N (qe_var 6 vo_law_good_handed) (qa_N (qe_var 1 vo_law_good_k) qa_nil)) db_law_good_twin_of))
    (qss_cons (qs_set (i := 8) sc_law_good.nd rfl lo_law_good_parts (qe_call (G_law_parts.mono (by omega)) hr gl_law_good__law_parts T_law_parts.m T_law_parts.F.kp T_law_parts.b .nil pass0 (qa_N (qe_var 7 vo_law_good_twin) qa_nil) db_law_good__law_parts))
    (qss_cons (qs_if (qt_w (qw_or (qt_cmp qop_lt (qe_ix qix_list (qe_var 8 vo_law_good_parts) qe_int) qe_int (nomarkQ _)) (qw_or (qt_cmp qop_gt (qe_ix qix_list (qe_var 8 vo_law_good_parts) qe_int) qe_int (nomarkQ _)) (qw_or (qt_cmp qop_gt (qe_ix qix_list (qe_var 8 vo_law_good_parts) qe_int) qe_int (nomarkQ _)) (qw_or1 (qt_cmp (qop_neSame hr.units) (qe_var 6 vo_law_good_handed) (qe_var 0 vo_law_good_record) (nomarkQ _))))))) (qss_one (qs_ret qe_bl)) qss_nil)
    (qss_cons (qs_set (i := 9) sc_law_good.nd rfl lo_law_good_numbers (qe_callTy (qc_dictP rfl) gl_law_good_dict T.b_dict bt_dict (qa_N (qe_var 4 vo_law_good_reads) qa_nil) nn_law_good_dict db_law_good_dict))
    (qss_cons (qs_if (qt_cmp (qop_neSame hr.units) (qe_call (G_law_worked.mono (by omega)) hr gl_law_good__law_worked T_law_worked.m T_law_worked.F.kp T_law_worked.b .nil pass0 (qa_N (qe_var 7 vo_law_good_twin) (qa_N (qe_var 9 vo_law_good_numbers) qa_nil)) db_law_good__law_worked) (qe_lst (qa_N (qe_var 5 vo_law_good_worth) (qa_N (qe_var 4 vo_law_good_reads) qa_nil))) (nomarkQ _)) (qss_one (qs_ret qe_bl)) qss_nil)
    (qss_cons (qs_for PassesOwn.never rfl (qi_range1 gl_law_good_range T.b_range (qa_C qe_int qa_nil)) (qg_name (i := 10) sc_law_good.nd rfl lo_law_good_way) (qss_cons (qs_dput (hu_of hr) (qe_var 9 vo_law_good_numbers) (qe_ix qix_tup (qe_ix qix_list (qe_var 4 vo_law_good_reads) (qe_var 1 vo_law_good_k)) qe_int) (qe_op qop_add (qe_ix qix_tup (qe_ix qix_list (qe_var 4 vo_law_good_reads) (qe_var 1 vo_law_good_k)) qe_int) (qe_ix qix_list (qe_lst (qa_C qe_int (qa_U (qe_un qun_neg qe_int) (qa_B (qe_op qop_pow qe_int qe_int) (qa_B (qe_op qop_sub (qe_un qun_neg qe_int) (qe_call (G_law_take.mono (by omega)) hr gl_law_good__law_take T_law_take.m T_law_take.F.kp T_law_take.b .nil pass0 (qa_N (qe_var 2 vo_law_good_pool) (qa_B (qe_op qop_pow qe_int qe_int) qa_nil)) db_law_good__law_take)) qa_nil))))) (qe_call (G_law_take.mono (by omega)) hr gl_law_good__law_take T_law_take.m T_law_take.F.kp T_law_take.b .nil pass0 (qa_N (qe_var 2 vo_law_good_pool) (qa_C qe_int qa_nil)) db_law_good__law_take))))
    (qss_one (qs_if (qt_cmp qop_eq (qe_ix qix_list (qe_call (G_law_worked.mono (by omega)) hr gl_law_good__law_worked T_law_worked.m T_law_worked.F.kp T_law_worked.b .nil pass0 (qa_N (qe_var 7 vo_law_good_twin) (qa_N (qe_var 9 vo_law_good_numbers) qa_nil)) db_law_good__law_worked) qe_int) (qe_var 5 vo_law_good_worth) (nomarkQ _)) (qss_one (qs_ret qe_bl)) qss_nil))))
    (qss_one (qs_ret (qe_cmp (qop_eqSame hr.units) (qe_call (G_twin_of.mono (by omega)) hr gl_law_good_twin_of T_twin_of.m T_twin_of.F.kp T_twin_of.b .nil pass0 (qa_N (qe_var 6 vo_law_good_handed) (qa_N (qe_var 1 vo_law_good_k) qa_nil)) db_law_good_twin_of) (qe_var 7 vo_law_good_twin) (nomarkQ _)))))))))))), ?_⟩
  have h30 : ps.length ≤ 30 := by omega
  obtain ⟨tg, td, tn⟩ := twin_part (v := wo) h30 hk hgn
  have tpl := twin_pl (v := wo) h30 hk
  have tplus := tpl.plus
  have td8 : (twinR ps k wo).depth ≤ 8 := by omega
  have tn1 := R.nodes1 (twinR ps k wo)
  walk_at "vs"
  intro l2 hl2
  have s1 := same_new (.lst (as.map V.ref)) hl2
  have el2 : upd H l2 (.lst (as.map V.ref)) l2 = some (.lst (as.map V.ref)) := upd_same
  generalize upd H l2 (.lst (as.map V.ref)) = H1 at *
  walk_at "vs"
  intro ha hha
  have s2 := same_new (.tup [V.ref b, V.ref l2, V.int wo]) hha
  have eh2 : upd H1 ha (.tup [V.ref b, V.ref l2, V.int wo]) ha = some (.tup [V.ref b, V.ref l2, V.int wo]) := upd_same
  have S2 := s1.trans s2
  have el22 := s2 _ _ el2
  generalize upd H1 ha (.tup [V.ref b, V.ref l2, V.int wo]) = H2 at *
  have rc : Rc37 H2 ha as ps wo := ⟨_, l2, eh2, el22, hRs.same S2⟩
  walk_at "vs"
  intro tw H3 s3 Rt
  walk_at "vs"
  intro lp H4 s4 ep
  walk_at "vs"
  refine ite2 (fun c1 => ?_) (fun c1 => ?_)
  · have c1' : ((twinR ps k wo).nodes : Int) < 1 := by simpa using c1
    omega
  walk_at "vs"
  refine ite2 (fun c2 => ?_) (fun c2 => ?_)
  · have c2' : 100 < ((twinR ps k wo).nodes : Int) := by simpa using c2
    omega
  walk_at "vs"
  refine ite2 (fun c3 => ?_) (fun c3 => ?_)
  · have c3' : 8 < ((twinR ps k wo).depth : Int) := by simpa using c3
    omega
  have S3 := S2.trans s3
  have S4 := S3.trans s4
  walk_at "vs"
  refine ⟨rcD r wo ps, .tup (SqT.of (s4 _ _ (s3 _ _ eh2))) (.cons (IsR.dat (hR.same S4)) (.cons (.lst (SqL.of (s4 _ _ (s3 _ _ el22))) (rds_dat (hRs.same S4))) (.cons (.int _) .nil))), .tup (SqT.of (S4 _ _ et)) (.cons (IsR.dat (hR.same S4)) (.cons (.lst (SqL.of (S4 _ _ el)) (rds_dat (hRs.same S4))) (.cons (.int _) .nil))), rc_shaped hg hd hgn, ?_⟩
  have el4 := S4 _ _ el
  have hRs4 := hRs.same S4
  have h1000 : ps.length ≤ 1000 := by omega
  walk_at "vs"
  intro nd hnd4
  have s5 := same_new (.dK (pdK ps)) hnd4
  have en : upd H4 nd (.dK (pdK ps)) nd = some (.dK (pdK ps)) := upd_same
  have S5 := S4.trans s5
  have Rt5 := Rt.same (s4.trans s5)
  have ndH : H nd = none := same_none S4 hnd4
  have npd : nd ≠ p := (pl.same S4).ne hnd4
  generalize upd H4 nd (.dK (pdK ps)) = H5 at *
  have hpv := pd_val hnd
  have hval : ∀ x ∈ ps.map (·.1), valV (pdK ps) (.inr x) = some (.int (nmD (pdK ps) x)) := fun x hx => by
    obtain ⟨y, hy, e⟩ := List.mem_map.mp hx
    rw [← e, hpv y hy, nmD_val (hpv y hy)]
  have hnl : (ps.map (·.1)).length ≤ 100 := by rw [List.length_map]; omega
  have hgs : ∀ x ∈ ps.map (·.1), GName x := fun x hx => by
    obtain ⟨y, hy, e⟩ := List.mem_map.mp hx
    rw [← e]; exact hgn y hy
  clear c1 c2 c3 ep tplus
  walk_at "vs"
  intro lw rl as' H6 s6 elw erl hRw
  rw [twin_rd h30 hk (fun x hx => nmD_val (hpv x hx)) hnd] at hRw
  rw [twin_ev1 h30 hk (fun x hx => nmD_val (hpv x hx))] at elw
  walk_at "vs"
  intro p7 hp7
  have s7 := same_new (.lst [V.int wo, V.ref l]) hp7
  have S7 := S5.trans (s6.trans s7)
  refine ⟨wkD wo ps, .lst (SqL.of (s7 _ _ elw)) (.cons (.int _) (.cons (.lst (SqL.of (s7 _ _ erl)) (rds_dat (hRw.same s7))) .nil)), .lst (SqL.of upd_same) (.cons (.int _) (.cons (.lst (SqL.of (S7 _ _ el)) (rds_dat (hRs.same S7))) .nil)), wk_shaped hgn, ?_⟩
  have en7 := s7 _ _ (s6 _ _ en)
  have Rt7 := Rt5.same (s6.trans s7)
  have rc7 := rc.same (s3.trans (s4.trans (s5.trans (s6.trans s7))))
  have pl7 := pl.same S7
  have b7 : But [p] H (upd H6 p7 (.lst [V.int wo, V.ref l])) := But.of_same S7
  generalize upd H6 p7 (.lst [V.int wo, V.ref l]) = H7 at *
  clear S7 s7 hp7 hRw erl elw s6 s5 S5 Rt5 en S4 S3 s4 s3 hRs4 el4 rc el22 eh2 s2 S2 hha el2 s1 hl2 Rt hnd4 hval h1000
  obtain ⟨pk, hpk⟩ : ∃ pk, ps[k]? = some pk := ⟨_, List.getElem?_eq_getElem hk⟩
  have hal := hRs.length
  obtain ⟨ak, hak⟩ : ∃ ak, as[k]? = some ak := ⟨_, List.getElem?_eq_getElem (by omega)⟩
  obtain ⟨pk', hpk', eak⟩ := hRs.get k ak hak
  rw [hpk] at hpk'
  cases hpk'
  have hatk : atI (as.map V.ref) (k : Int) = some (.ref ak) := atI_nat (by rw [List.getElem?_map, hak]; rfl)
  have cp1 : CPow 10 30 := ⟨by decide, by decide, by decide⟩
  have cp2 : CPow 10 9 := ⟨by decide, by decide, by decide⟩
  walk_at "vs"
  refine for_range (fun i σ H' => (∃ t10, σ = [some (.ref t), some (.int (k : Int)), some (.ref p), some (.ref b), some (.ref l), some (.int wo), some (.ref ha), some (.ref tw), some (.ref lp), some (.ref nd), t10]) ∧ But [p] H H' ∧ PoolAt H' p (c + 2 * i) ∧ IsR H' tw (twinR ps k wo) ∧ Rc37 H' ha as ps wo ∧ ∃ kv, H' nd = some (.dK kv) ∧ kv.length ≤ 29 + i ∧ (∀ x ∈ ps, x.1 ≠ pk.1 → valV kv (.inr x.1) = some (.int x.2))) ?_ ?_ ?_
  · exact ⟨⟨_, rfl⟩, b7, pl7, Rt7, rc7, _, en7, by rw [show (pdK ps).length = ps.length from List.length_map _]; omega, fun x hx _ => hpv x hx⟩
  · intro i σ H8 hi hP
    obtain ⟨⟨t10, rfl⟩, b8, pl8, Rt8, rc8, kv, en8, hkl, hkv⟩ := hP
    have npl : l ≠ p := fun z => by
      obtain ⟨_, _, _, e, _⟩ := pl
      rw [z, e] at el; cases el
    have el8 := b8 _ _ (by simpa using npl) el
    have tp8 : Tups H H8 := pl.tups b8
    have eak8 : H8 ak = some (.tup [.str pk.1, .int pk.2]) := tp8 _ _ eak
    walk_at "vs"
    intro n9 H9 n90 n91 b9 pl9
    have b98 := b8.trans b9
    walk_at "vs"
    intro pz hpz
    have s10 := same_new (.lst [V.int 1, V.int (-1), V.int (10 ^ (30 : Int).toNat), V.int (-2 - n9)]) hpz
    have pl10 := pl9.same s10
    walk_at "vs"
    intro n11 H11 n110 n111 b11 pl11
    have B11 : But [p] H H11 := b98.trans ((But.of_same s10).trans b11)
    have C11 : But [p] H8 H11 := b9.trans ((But.of_same s10).trans b11)
    have ez : H11 pz = some (.lst [V.int 1, V.int (-1), V.int (10 ^ (30 : Int).toNat), V.int (-2 - n9)]) := b11 pz _ (by simpa using pl9.ne hpz) upd_same
    obtain ⟨v, hv, hv0⟩ : ∃ v : Int, atI [V.int 1, V.int (-1), V.int (10 ^ (30 : Int).toNat), V.int (-2 - n9)] n11 = some (.int v) ∧ v ≠ 0 := by
      have hc : n11 = 0 ∨ n11 = 1 ∨ n11 = 2 ∨ n11 = 3 := by omega
      rcases hc with rfl | rfl | rfl | rfl
      · exact ⟨_, rfl, by decide⟩
      · exact ⟨_, rfl, by decide⟩
      · exact ⟨_, rfl, by decide⟩
      · exact ⟨_, rfl, by omega⟩
    have el11 := B11 _ _ (by simpa using npl) el
    have tp11 : Tups H H11 := pl.tups B11
    have tq11 : Tups H8 H11 := pl8.tups C11
    have eak11 : H11 ak = some (.tup [.str pk.1, .int pk.2]) := tp11 _ _ eak
    have en11 := C11 _ _ (by simpa using npd) en8
    have Rt11 := Rt8.tups tq11
    have hsz : kv.length < sizeLine := by rw [sizeLine_eq]; omega
    clear cp1 cp2 s10 pl10 b9 b98 b11 pl9
    have dp : DPut H11 nd (.str pk.1) (.int (pk.2 + v)) (upd H11 nd (.dK (putK kv (.inr pk.1) (.int (pk.2 + v))))) := .inl ⟨kv, .inr pk.1, en11, rfl, hsz, rfl⟩
    have rcb : ∀ {Hx Hy : Hp} {z : Addr} {kz : List (Key × V)}, Rc37 Hx ha as ps wo → Hx z = some (.dK kz) → But [z] Hx Hy → Rc37 Hy ha as ps wo := fun ⟨v, l', e1, e2, e3⟩ ez bb =>
      ⟨v, l', bb _ _ (fun w => by rw [show ha = _ by simpa using w, ez] at e1; cases e1) e1, bb _ _ (fun w => by rw [show l' = _ by simpa using w, ez] at e2; cases e2) e2, e3.tups (fun y xs e => bb y _ (fun w => by rw [show y = _ by simpa using w, ez] at e; cases e) e)⟩
    have rc11 : Rc37 H11 ha as ps wo := by
      obtain ⟨_, _, _, ep, _⟩ := pl8
      exact rcb rc8 ep C11
    have bset : But [nd] H11 (upd H11 nd (.dK (putK kv (.inr pk.1) (.int (pk.2 + v))))) := But.set _ (by simp)
    have rc12 := rcb rc11 en11 bset
    have tp12 : Tups H11 (upd H11 nd (.dK (putK kv (.inr pk.1) (.int (pk.2 + v))))) := fun y xs e => (upd_ne (fun z => by rw [z, en11] at e; cases e)).trans e
    have Rt12 := Rt11.tups tp12
    have B12 := B11.upd (.dK (putK kv (.inr pk.1) (.int (pk.2 + v)))) ndH
    have pl12 := pl11.keep bset (by simpa using Ne.symm npd)
    have en12 : upd H11 nd (.dK (putK kv (.inr pk.1) (.int (pk.2 + v)))) nd = some (.dK (putK kv (.inr pk.1) (.int (pk.2 + v)))) := upd_same
    have hkl2 : (putK kv (.inr pk.1) (.int (pk.2 + v))).length ≤ 29 + (i + 1) := by
      have := length_putK kv (.inr pk.1) (.int (pk.2 + v)); omega
    have hk1 : valV (putK kv (.inr pk.1) (.int (pk.2 + v))) (.inr pk.1) = some (.int (pk.2 + v)) := by rw [valV_put, if_pos rfl]
    have hk2 : ∀ x ∈ ps, x.1 ≠ pk.1 → valV (putK kv (.inr pk.1) (.int (pk.2 + v))) (.inr x.1) = some (.int x.2) := fun x hx hne => by
      rw [valV_put, if_neg (fun z => hne (Sum.inr.inj z))]; exact hkv x hx hne
    generalize putK kv (.inr pk.1) (.int (pk.2 + v)) = kv' at *
    generalize upd H11 nd (.dK kv') = H12 at *
    have hval2 : ∀ x ∈ ps.map (·.1), valV kv' (.inr x) = some (.int (nmD kv' x)) := fun x hx => by
      obtain ⟨y, hy, e⟩ := List.mem_map.mp hx
      rw [← e]
      by_cases z : y.1 = pk.1
      · rw [z, hk1, nmD_val hk1]
      · rw [hk2 y hy z, nmD_val (hk2 y hy z)]
    have hneq : evT (nmD kv') (twinR ps k wo) ≠ wo := twin_ev2 (x := pk.1) (u := pk.2) h30 hpk hnd (fun x hx hne => nmD_val (hk2 x hx hne)) (by rw [nmD_val hk1]; omega)
    clear bset tp12 rc11 rcb Rt11 tq11 tp11 B11 C11 hpz hkv hkl en8 rc8 Rt8 pl8 b8 el8 tp8 eak8 en7 hpv
    walk_at "vs"
    intro lw2 rl2 as2 H13 s13 elw2 erl2 hRw2
    walk_at "vs"
    refine ite2 (fun c1 => ?_) (fun c1 => ?_)
    · have c1' : evT (nmD kv') (twinR ps k wo) = wo := by simpa using c1
      exact absurd c1' hneq
    · exact ⟨⟨_, rfl⟩, B12.trans (But.of_same s13), (pl12.same s13).mono (by omega), Rt12.same s13, rc12.same s13, kv', s13 _ _ en12, hkl2, hk2⟩
  · intro σ H8 hP
    obtain ⟨⟨t10, rfl⟩, b8, pl8, Rt8, rc8, kv, en8, hkl, hkv⟩ := hP
    walk_at "vs"
    intro tw2 H9 s9 Rt9
    walk_at "vs"
    refine ⟨(twinR ps k wo).dat, IsR.dat Rt9, IsR.dat (Rt8.same s9), r_shaped tg td8, ?_⟩
    walk_at "vs"
    exact q _ (b8.trans (But.of_same s9)) (pl8.same s9)
end

section
variable {P : Program} {w : World} {K : PySem.W.Frag} {mg : Str → Option Value} {base : Heap}
noncomputable abbrev s_law : Stmt := top 41
theorem sc_law : FnScope ["script", "record", "many", "pool", "k"] ["script"] (defScope s_law) := ⟨rfl, rfl, rfl, by decide +kernel, rfl, by decide +kernel, by decide +kernel⟩
theorem lo_law_record : Loc (defScope s_law) "record" := by decide +kernel
theorem gl_law__law_record : (defScope s_law).names.lookup ("_law_record" : Str) = some NameKind.globalImplicit := by decide +kernel
theorem vo_law_script : VarOk (defScope s_law) "script" := by decide +kernel
theorem db_law__law_record : (("_law_record" : Str) == ("__debug__" : Str)) = false := by decide +kernel
theorem lo_law_many : Loc (defScope s_law) "many" := by decide +kernel
theorem gl_law_len : (defScope s_law).names.lookup ("len" : Str) = some NameKind.globalImplicit := by decide +kernel
theorem vo_law_record : VarOk (defScope s_law) "record" := by decide +kernel
theorem nn_law_len : ("len" : Str) ≠ "__name__" := by decide +kernel
theorem db_law_len : (("len" : Str) == ("__debug__" : Str)) = false := by decide +kernel
theorem lo_law_pool : Loc (defScope s_law) "pool" := by decide +kernel
theorem gl_law__law_pool : (defScope s_law).names.lookup ("_law_pool" : Str) = some NameKind.globalImplicit := by decide +kernel
theorem db_law__law_pool : (("_law_pool" : Str) == ("__debug__" : Str)) = false := by decide +kernel
theorem vo_law_many : VarOk (defScope s_law) "many" := by decide +kernel
theorem gl_law_range : (defScope s_law).names.lookup ("range" : Str) = some NameKind.globalImplicit := by decide +kernel
theorem db_law__law_take : (("_law_take" : Str) == ("__debug__" : Str)) = false := by decide +kernel
theorem lo_law_k : Loc (defScope s_law) "k" := by decide +kernel
theorem gl_law__law_good : (defScope s_law).names.lookup ("_law_good" : Str) = some NameKind.globalImplicit := by decide +kernel
theorem vo_law_pool : VarOk (defScope s_law) "pool" := by decide +kernel
theorem vo_law_k : VarOk (defScope s_law) "k" := by decide +kernel
theorem db_law__law_good : (("_law_good" : Str) == ("__debug__" : Str)) = false := by decide +kernel
theorem ok_law {f g1 g2 g3 g4 : Addr} {fd gd1 gd2 gd3 gd4 : FuncData} (T_law : FnT K mg "law" s_law ["script"] f fd)
    (T_law_record : FnT K mg "_law_record" s_law_record ["script"] g1 gd1) (G_law_record : FnOk P w K mg base CX0 3 g1 gd1 ["script"] (sp37Rec K))
    (T_law_pool : FnT K mg "_law_pool" s_law_pool ["script", "k"] g2 gd2) (G_law_pool : FnOk P w K mg base CX0 2 g2 gd2 ["script", "k"] (spPool K))
    (T_law_take : FnT K mg "_law_take" s_law_take ["pool", "many"] g3 gd3) (G_law_take : FnOk P w K mg base CX0 1 g3 gd3 ["pool", "many"] spTake)
    (T_law_good : FnT K mg "_law_good" s_law_good ["record", "k", "pool"] g4 gd4) (G_law_good : FnOk P w K mg base CX0 12 g4 gd4 ["record", "k", "pool"] sp37Good)
    (T : Blt mg) : FnOk P w K mg base CX0 13 f fd ["script"] (spLaw K) := by
  refine T_law.F.okQ sc_law (fun vs H Q E h => ?_) (fun cdv A outer s H vs Q E hr h => ?_)
  · obtain ⟨a, ns, rfl, _⟩ := h
    rfl
  obtain ⟨a, ns, rfl, hS, h63, q⟩ := h
  refine ⟨_, (qss_cons (qs_set (i := 1) sc_law.nd rfl lo_law_record (qe_call (G_law_record.mono (by omega)) hr gl_law__law_record T_law_record.m T_law_record.F.kp T_law_record.b .nil pass0 (qa_N (qe_var 0 vo_law_script) qa_nil) db_law__law_record))
    (qss_cons (qs_set (i := 2) sc_law.nd rfl lo_law_many (qe_callB qc_len_seq gl_law_len T.b_len bt_len (qa_S (qe_ix qix_tup (qe_var 1 vo_law_record) qe_int) qa_nil) nn_law_len db_law_len))
    (qss_cons (qs_set (i := 3) sc_law.nd rfl lo_law_pool (qe_call (G_law_pool.mono (by omega)) hr gl_law__law_pool T_law_pool.m T_law_pool.F.kp T_law_pool.b .nil pass0 (qa_N (qe_var 0 vo_law_script) (qa_C qe_int qa_nil)) db_law__law_pool))
    (qss_cons (qs_for PassesOwn.never rfl (qi_list (qe_op qop_cat (qe_lst (qa_C qe_int (qa_B (qe_op qop_sub (qe_var 2 vo_law_many) qe_int) (qa_B (qe_op qop_fdiv (qe_var 2 vo_law_many) qe_int) qa_nil)))) (qe_comp rfl (n := 1) (fr := [3, 2]) (N := ["turn", "pool", "many"]) (cs_mk (scX := defScope s_law) (NX := ["script", "record", "many", "pool", "k"]) rfl rfl (by decide +kernel)) (qi_range1 gl_law_range T.b_range (qa_C qe_int qa_nil)) (fun _ _ _ _ _ => (qgx (i := 0) (show List.Nodup (α := Str) ["turn", "pool", "many"] by decide) (locC (by decide +kernel)))) (fun _ _ _ _ _ => qi_nil) (fun _ _ _ _ _ => (qe_call (G_law_take.mono (by omega)) hr (glC (by decide +kernel)) T_law_take.m T_law_take.F.kp T_law_take.b .nil pass0 (qa_N (qe_var 1 (VarC.ok (by decide +kernel))) (qa_N (qe_var 2 (VarC.ok (by decide +kernel))) qa_nil)) db_law__law_take))))) (qg_name (i := 4) sc_law.nd rfl lo_law_k) (qss_one (qs_if (qt_not (qt_val (qe_call (G_law_good.mono (by omega)) hr gl_law__law_good T_law_good.m T_law_good.F.kp T_law_good.b .nil pass0 (qa_N (qe_var 1 vo_law_record) (qa_N (qe_var 4 vo_law_k) (qa_N (qe_var 3 vo_law_pool) qa_nil))) db_law__law_good))) (qss_one (qs_ret qe_bl)) qss_nil)))
    (qss_one (qs_ret qe_bl)))))), ?_⟩
  walk_at "vs"
  intro t b l r as ps wo H1 s1 et hR hg hd el hRs h1 h29 hnd hgn
  have hS1 := SqL.same s1 hS
  have hal := hRs.length
  have hlm : ((as.map V.ref).length : Int) = (ps.length : Int) := by rw [List.length_map, hal]
  walk_at "vs"
  intro p H2 s2 hp pl2
  walk_at "vs"
  intro p3 hp3
  rw [hlm] at *
  have s3 := same_new (.lst [V.int 0, V.int ((ps.length : Int) - 1), V.int ((ps.length : Int) / 2)]) hp3
  have e3 : upd H2 p3 (.lst [V.int 0, V.int ((ps.length : Int) - 1), V.int ((ps.length : Int) / 2)]) p3 = some (.lst [V.int 0, V.int ((ps.length : Int) - 1), V.int ((ps.length : Int) / 2)]) := upd_same
  have pl3 := pl2.same s3
  have S3 := s2.trans s3
  generalize upd H2 p3 (.lst [V.int 0, V.int ((ps.length : Int) - 1), V.int ((ps.length : Int) / 2)]) = H3 at *
  have hpos : (0 : Int) < (ps.length : Int) := by omega
  have hlog : ((ps.length : Int)).natAbs.log2 < 9000 := by
    have h1 : (ps.length : Int).natAbs < 2 ^ 9000 := Nat.lt_of_le_of_lt (show (ps.length : Int).natAbs ≤ 29 by omega) (by decide +kernel)
    by_cases z : (ps.length : Int).natAbs = 0
    · rw [z]; decide
    · exact (Nat.log2_lt z).mpr h1
  walk_at "vs"
  intro D hD
  have npD : p ≠ D := Ne.symm (pl3.ne hD)
  refine comp_range (fun i σ' H' => (∃ t, σ' = t :: [some (.ref p), some (.int (ps.length : Int))]) ∧ But [p] H3 H' ∧ PoolAt H' p (503 + i) ∧ ∃ ks : List Int, H' D = some (.lst (ks.map V.int)) ∧ ks.length = i ∧ ∀ n ∈ ks, 0 ≤ n ∧ n < (ps.length : Int)) ?_ ?_ ?_
  · exact ⟨⟨none, rfl⟩, But.of_same (same_new _ hD), pl3.same (same_new _ hD), [], upd_same, rfl, by simp⟩
  · intro i σ' H4 hi hP
    obtain ⟨⟨t0, rfl⟩, b4, pl4, ks, eD, hkl, hks⟩ := hP
    walk_at "vs"
    intro n5 H5 n50 n51 b5 pl5
    have eD5 := b5 _ _ (by simpa using Ne.symm npD) eD
    refine ⟨_, eD5, by rw [List.length_map]; exact small1000 (by omega), ⟨_, rfl⟩, (b4.trans b5).upd _ hD, pl5.keep (S := [D]) (But.set _ (by simp)) (by simpa using npD), ks ++ [n5], by rw [upd_same, List.map_append]; rfl, by rw [List.length_append, hkl]; rfl, fun n hn => ?_⟩
    rcases List.mem_append.mp hn with z | z
    · exact hks n z
    · have : n = n5 := by simpa using z
      rw [this]; exact ⟨n50, n51⟩
  intro σ' H4 hP
  obtain ⟨_, b4, pl4, ks, eD, hkl, hks⟩ := hP
  have e34 := b4 _ _ (by simpa using fun z => by obtain ⟨_, _, _, e, _⟩ := pl3; rw [z, e] at e3; cases e3) e3
  have fr : ∀ z ∈ [p], H1 z = none := by simpa using hp
  have S4 := but_same S3 fr b4
  have hzc : ([V.int 0, V.int ((ps.length : Int) - 1), V.int ((ps.length : Int) / 2)] : List V).length + (ks.map V.int).length ≤ sizeLine := by
    rw [List.length_map, sizeLine_eq]; simp only [List.length_cons, List.length_nil]; omega
  clear b4 e3 s3 s2
  walk_at "vs"
  intro p5 hp5
  have s5 := same_new (.lst ([V.int 0, V.int ((ps.length : Int) - 1), V.int ((ps.length : Int) / 2)] ++ ks.map V.int)) hp5
  have e5 : upd H4 p5 (.lst ([V.int 0, V.int ((ps.length : Int) - 1), V.int ((ps.length : Int) / 2)] ++ ks.map V.int)) p5 = some (.lst ([V.int 0, V.int ((ps.length : Int) - 1), V.int ((ps.length : Int) / 2)] ++ ks.map V.int)) := upd_same
  have hall : ∀ v ∈ [V.int 0, V.int ((ps.length : Int) - 1), V.int ((ps.length : Int) / 2)] ++ ks.map V.int, ∃ k : Nat, v = .int (k : Int) ∧ k < ps.length := fun v hv => by
    have mk : ∀ n : Int, 0 ≤ n → n < (ps.length : Int) → ∃ k : Nat, V.int n = .int (k : Int) ∧ k < ps.length := fun n h0 h1 => by
      obtain ⟨k, rfl⟩ := Int.eq_ofNat_of_zero_le h0
      exact ⟨k, rfl, by omega⟩
    rcases List.mem_append.mp hv with z | z
    · have z' : v = V.int 0 ∨ v = V.int ((ps.length : Int) - 1) ∨ v = V.int ((ps.length : Int) / 2) := by simpa using z
      rcases z' with w | w | w
      · rw [w]; exact mk _ (by omega) (by omega)
      · rw [w]; exact mk _ (by omega) (by omega)
      · rw [w]; exact mk _ (by omega) (by omega)
    · obtain ⟨n, hn, e⟩ := List.mem_map.mp z
      rw [← e]; exact mk n (hks n hn).1 (hks n hn).2
  have hxl : ([V.int 0, V.int ((ps.length : Int) - 1), V.int ((ps.length : Int) / 2)] ++ ks.map V.int).length = 6 := by
    rw [List.length_append, List.length_map]; simp only [List.length_cons, List.length_nil]; omega
  have pl5 := pl4.same s5
  have S5 := S4.trans s5
  generalize upd H4 p5 (.lst ([V.int 0, V.int ((ps.length : Int) - 1), V.int ((ps.length : Int) / 2)] ++ ks.map V.int)) = H5 at *
  generalize [V.int 0, V.int ((ps.length : Int) - 1), V.int ((ps.length : Int) / 2)] ++ ks.map V.int = xs at *
  clear hp5 s5 hD npD e34 eD hks hkl hzc hlog
  walk_at "vs"
  refine for_list (xs := xs) (fun i σ H' => (∃ t4, σ = [some (.ref a), some (.ref t), some (.int (ps.length : Int)), some (.ref p), t4]) ∧ Same H1 H' ∧ PoolAt H' p (506 + 4 * i) ∧ H' p5 = some (.lst xs)) ?_ ?_ ?_ ?_
  · exact ⟨⟨_, rfl⟩, S5, pl5, e5⟩
  · intro i σ H' _ hP
    exact SqL.of hP.2.2.2
  · intro i x σ H6 hx hP
    obtain ⟨⟨t4, rfl⟩, S6, pl6, e6⟩ := hP
    have hi : i < xs.length := (List.getElem?_eq_some_iff.mp hx).1
    obtain ⟨k, rfl, hk⟩ := hall x (List.mem_of_getElem? hx)
    have et6 := S6 _ _ et
    have hR6 := hR.same S6
    have el6 := S6 _ _ el
    have hRs6 := hRs.same S6
    walk_at "vs"
    intro H7 b7 pl7
    have e7 := b7 _ _ (by simpa using fun z => by obtain ⟨_, _, _, e, _⟩ := pl6; rw [z, e] at e6; cases e6) e6
    walk_at "vs"
    exact ⟨⟨_, rfl⟩, but_same S6 fr b7, pl7.mono (by omega), e7⟩
  · intro σ H6 hP
    obtain ⟨⟨t4, rfl⟩, S6, pl6, e6⟩ := hP
    walk_at "vs"
    exact q _
end

theorem fnT_mk {K : PySem.W.Frag} {h : Heap} {mg : Str → Option Value} (X : K.In h) (G : h.Ns mainGlobals mg) {x : Str} {st : Stmt} {ps : List Str} {f : Addr} {oc : Value} {od an : Option Addr} {osl : Array (Option Value)} {kV doc pm cdv ct : Value}
    (a : PySem.W.nsIn K mainGlobals x = some (some (.ref f))) (l : K.lookup f = some ⟨oc, od, .func (PySem.W.fnOf x x (defArgs st) (defBody st) (defScope st) .none kV doc pm an cdv ct), osl⟩) (c : PySem.W.codeIn K cdv x = true) (k : PySem.W.keepIn K (.ref f) = true)
    (hb : ∀ us : List Value, us.length = ps.length → bindArgs (PySem.W.fnOf x x (defArgs st) (defBody st) (defScope st) .none kV doc pm an cdv ct) ⟨us, []⟩ = pure (ps.zip us)) :
    FnT K mg x st ps f (PySem.W.fnOf x x (defArgs st) (defBody st) (defScope st) .none kV doc pm an cdv ct) :=
  ⟨fun_mk l c k, Binds.all hb, PySem.W.mg_of X G a⟩


theorem all_mk {l : PySem.W.OpenLaw} {w : World} {K : PySem.W.Frag} {h : Heap} {mg : Str → Option Value} {fa f1 f2 f3 f4 f5 f6 f7 f8 f9 f10 f11 f12 f13 f14 f15 f16 f17 f18 f19 f20 f21 f22 f23 : Addr} (X : K.In h) (G : h.Ns mainGlobals mg) (hfa : mg "law" = some (.ref fa))
    {od1 an1 od2 an2 od3 an3 od4 an4 od5 an5 od6 an6 od7 an7 od8 an8 od9 an9 od10 an10 od11 an11 od12 an12 od13 an13 od14 an14 od15 an15 od16 an16 od17 an17 od18 an18 od19 an19 od20 an20 od21 an21 od22 an22 od23 an23 : Option Addr} {sl1 sl2 sl3 sl4 sl5 sl6 sl7 sl8 sl9 sl10 sl11 sl12 sl13 sl14 sl15 sl16 sl17 sl18 sl19 sl20 sl21 sl22 sl23 : Array (Option Value)} {oc1 kV1 dc1 pm1 cd1 ct1 oc2 kV2 dc2 pm2 cd2 ct2 oc3 kV3 dc3 pm3 cd3 ct3 oc4 kV4 dc4 pm4 cd4 ct4 oc5 kV5 dc5 pm5 cd5 ct5 oc6 kV6 dc6 pm6 cd6 ct6 oc7 kV7 dc7 pm7 cd7 ct7 oc8 kV8 dc8 pm8 cd8 ct8 oc9 kV9 dc9 pm9 cd9 ct9 oc10 kV10 dc10 pm10 cd10 ct10 oc11 kV11 dc11 pm11 cd11 ct11 oc12 kV12 dc12 pm12 cd12 ct12 oc13 kV13 dc13 pm13 cd13 ct13 oc14 kV14 dc14 pm14 cd14 ct14 oc15 kV15 dc15 pm15 cd15 ct15 oc16 kV16 dc16 pm16 cd16 ct16 oc17 kV17 dc17 pm17 cd17 ct17 oc18 kV18 dc18 pm18 cd18 ct18 oc19 kV19 dc19 pm19 cd19 ct19 oc20 kV20 dc20 pm20 cd20 ct20 oc21 kV21 dc21 pm21 cd21 ct21 oc22 kV22 dc22 pm22 cd22 ct22 oc23 kV23 dc23 pm23 cd23 ct23 : Value}
    (a1 : PySem.W.nsIn K mainGlobals "is_whole_number" = some (some (.ref f1))) (l1 : K.lookup f1 = some ⟨oc1, od1, .func (PySem.W.fnOf "is_whole_number" "is_whole_number" (defArgs s_is_whole_number) (defBody s_is_whole_number) (defScope s_is_whole_number) .none kV1 dc1 pm1 an1 cd1 ct1), sl1⟩) (c1 : PySem.W.codeIn K cd1 "is_whole_number" = true) (k1 : PySem.W.keepIn K (.ref f1) = true)
    (a2 : PySem.W.nsIn K mainGlobals "is_name" = some (some (.ref f2))) (l2 : K.lookup f2 = some ⟨oc2, od2, .func (PySem.W.fnOf "is_name" "is_name" (defArgs s_is_name) (defBody s_is_name) (defScope s_is_name) .none kV2 dc2 pm2 an2 cd2 ct2), sl2⟩) (c2 : PySem.W.codeIn K cd2 "is_name" = true) (k2 : PySem.W.keepIn K (.ref f2) = true)
    (a3 : PySem.W.nsIn K mainGlobals "is_choice" = some (some (.ref f3))) (l3 : K.lookup f3 = some ⟨oc3, od3, .func (PySem.W.fnOf "is_choice" "is_choice" (defArgs s_is_choice) (defBody s_is_choice) (defScope s_is_choice) .none kV3 dc3 pm3 an3 cd3 ct3), sl3⟩) (c3 : PySem.W.codeIn K cd3 "is_choice" = true) (k3 : PySem.W.keepIn K (.ref f3) = true)
    (a4 : PySem.W.nsIn K mainGlobals "has_shape" = some (some (.ref f4))) (l4 : K.lookup f4 = some ⟨oc4, od4, .func (PySem.W.fnOf "has_shape" "has_shape" (defArgs s_has_shape) (defBody s_has_shape) (defScope s_has_shape) .none kV4 dc4 pm4 an4 cd4 ct4), sl4⟩) (c4 : PySem.W.codeIn K cd4 "has_shape" = true) (k4 : PySem.W.keepIn K (.ref f4) = true)
    (a5 : PySem.W.nsIn K mainGlobals "recipes_within" = some (some (.ref f5))) (l5 : K.lookup f5 = some ⟨oc5, od5, .func (PySem.W.fnOf "recipes_within" "recipes_within" (defArgs s_recipes_within) (defBody s_recipes_within) (defScope s_recipes_within) .none kV5 dc5 pm5 an5 cd5 ct5), sl5⟩) (c5 : PySem.W.codeIn K cd5 "recipes_within" = true) (k5 : PySem.W.keepIn K (.ref f5) = true)
    (a6 : PySem.W.nsIn K mainGlobals "is_recipe" = some (some (.ref f6))) (l6 : K.lookup f6 = some ⟨oc6, od6, .func (PySem.W.fnOf "is_recipe" "is_recipe" (defArgs s_is_recipe) (defBody s_is_recipe) (defScope s_is_recipe) .none kV6 dc6 pm6 an6 cd6 ct6), sl6⟩) (c6 : PySem.W.codeIn K cd6 "is_recipe" = true) (k6 : PySem.W.keepIn K (.ref f6) = true)
    (a7 : PySem.W.nsIn K mainGlobals "rows_of" = some (some (.ref f7))) (l7 : K.lookup f7 = some ⟨oc7, od7, .func (PySem.W.fnOf "rows_of" "rows_of" (defArgs s_rows_of) (defBody s_rows_of) (defScope s_rows_of) .none kV7 dc7 pm7 an7 cd7 ct7), sl7⟩) (c7 : PySem.W.codeIn K cd7 "rows_of" = true) (k7 : PySem.W.keepIn K (.ref f7) = true)
    (a8 : PySem.W.nsIn K mainGlobals "reading" = some (some (.ref f8))) (l8 : K.lookup f8 = some ⟨oc8, od8, .func (PySem.W.fnOf "reading" "reading" (defArgs s_reading) (defBody s_reading) (defScope s_reading) .none kV8 dc8 pm8 an8 cd8 ct8), sl8⟩) (c8 : PySem.W.codeIn K cd8 "reading" = true) (k8 : PySem.W.keepIn K (.ref f8) = true)
    (a9 : PySem.W.nsIn K mainGlobals "summed" = some (some (.ref f9))) (l9 : K.lookup f9 = some ⟨oc9, od9, .func (PySem.W.fnOf "summed" "summed" (defArgs s_summed) (defBody s_summed) (defScope s_summed) .none kV9 dc9 pm9 an9 cd9 ct9), sl9⟩) (c9 : PySem.W.codeIn K cd9 "summed" = true) (k9 : PySem.W.keepIn K (.ref f9) = true)
    (a10 : PySem.W.nsIn K mainGlobals "twin_of" = some (some (.ref f10))) (l10 : K.lookup f10 = some ⟨oc10, od10, .func (PySem.W.fnOf "twin_of" "twin_of" (defArgs s_twin_of) (defBody s_twin_of) (defScope s_twin_of) .none kV10 dc10 pm10 an10 cd10 ct10), sl10⟩) (c10 : PySem.W.codeIn K cd10 "twin_of" = true) (k10 : PySem.W.keepIn K (.ref f10) = true)
    (a11 : PySem.W.nsIn K mainGlobals "_law_cell_at" = some (some (.ref f11))) (l11 : K.lookup f11 = some ⟨oc11, od11, .func (PySem.W.fnOf "_law_cell_at" "_law_cell_at" (defArgs s_law_cell_at) (defBody s_law_cell_at) (defScope s_law_cell_at) .none kV11 dc11 pm11 an11 cd11 ct11), sl11⟩) (c11 : PySem.W.codeIn K cd11 "_law_cell_at" = true) (k11 : PySem.W.keepIn K (.ref f11) = true)
    (a12 : PySem.W.nsIn K mainGlobals "_law_pool" = some (some (.ref f12))) (l12 : K.lookup f12 = some ⟨oc12, od12, .func (PySem.W.fnOf "_law_pool" "_law_pool" (defArgs s_law_pool) (defBody s_law_pool) (defScope s_law_pool) .none kV12 dc12 pm12 an12 cd12 ct12), sl12⟩) (c12 : PySem.W.codeIn K cd12 "_law_pool" = true) (k12 : PySem.W.keepIn K (.ref f12) = true)
    (a13 : PySem.W.nsIn K mainGlobals "_law_take" = some (some (.ref f13))) (l13 : K.lookup f13 = some ⟨oc13, od13, .func (PySem.W.fnOf "_law_take" "_law_take" (defArgs s_law_take) (defBody s_law_take) (defScope s_law_take) .none kV13 dc13 pm13 an13 cd13 ct13), sl13⟩) (c13 : PySem.W.codeIn K cd13 "_law_take" = true) (k13 : PySem.W.keepIn K (.ref f13) = true)
    (a14 : PySem.W.nsIn K mainGlobals "_law_name" = some (some (.ref f14))) (l14 : K.lookup f14 = some ⟨oc14, od14, .func (PySem.W.fnOf "_law_name" "_law_name" (defArgs s_law_name) (defBody s_law_name) (defScope s_law_name) .none kV14 dc14 pm14 an14 cd14 ct14), sl14⟩) (c14 : PySem.W.codeIn K cd14 "_law_name" = true) (k14 : PySem.W.keepIn K (.ref f14) = true)
    (a15 : PySem.W.nsIn K mainGlobals "_law_summed" = some (some (.ref f15))) (l15 : K.lookup f15 = some ⟨oc15, od15, .func (PySem.W.fnOf "_law_summed" "_law_summed" (defArgs s_law_summed) (defBody s_law_summed) (defScope s_law_summed) .none kV15 dc15 pm15 an15 cd15 ct15), sl15⟩) (c15 : PySem.W.codeIn K cd15 "_law_summed" = true) (k15 : PySem.W.keepIn K (.ref f15) = true)
    (a16 : PySem.W.nsIn K mainGlobals "_law_settled" = some (some (.ref f16))) (l16 : K.lookup f16 = some ⟨oc16, od16, .func (PySem.W.fnOf "_law_settled" "_law_settled" (defArgs s_law_settled) (defBody s_law_settled) (defScope s_law_settled) .none kV16 dc16 pm16 an16 cd16 ct16), sl16⟩) (c16 : PySem.W.codeIn K cd16 "_law_settled" = true) (k16 : PySem.W.keepIn K (.ref f16) = true)
    (a17 : PySem.W.nsIn K mainGlobals "_law_look" = some (some (.ref f17))) (l17 : K.lookup f17 = some ⟨oc17, od17, .func (PySem.W.fnOf "_law_look" "_law_look" (defArgs s_law_look) (defBody s_law_look) (defScope s_law_look) .none kV17 dc17 pm17 an17 cd17 ct17), sl17⟩) (c17 : PySem.W.codeIn K cd17 "_law_look" = true) (k17 : PySem.W.keepIn K (.ref f17) = true)
    (a18 : PySem.W.nsIn K mainGlobals "_law_value" = some (some (.ref f18))) (l18 : K.lookup f18 = some ⟨oc18, od18, .func (PySem.W.fnOf "_law_value" "_law_value" (defArgs s_law_value) (defBody s_law_value) (defScope s_law_value) .none kV18 dc18 pm18 an18 cd18 ct18), sl18⟩) (c18 : PySem.W.codeIn K cd18 "_law_value" = true) (k18 : PySem.W.keepIn K (.ref f18) = true)
    (a19 : PySem.W.nsIn K mainGlobals "_law_record" = some (some (.ref f19))) (l19 : K.lookup f19 = some ⟨oc19, od19, .func (PySem.W.fnOf "_law_record" "_law_record" (defArgs s_law_record) (defBody s_law_record) (defScope s_law_record) .none kV19 dc19 pm19 an19 cd19 ct19), sl19⟩) (c19 : PySem.W.codeIn K cd19 "_law_record" = true) (k19 : PySem.W.keepIn K (.ref f19) = true)
    (a20 : PySem.W.nsIn K mainGlobals "_law_parts" = some (some (.ref f20))) (l20 : K.lookup f20 = some ⟨oc20, od20, .func (PySem.W.fnOf "_law_parts" "_law_parts" (defArgs s_law_parts) (defBody s_law_parts) (defScope s_law_parts) .none kV20 dc20 pm20 an20 cd20 ct20), sl20⟩) (c20 : PySem.W.codeIn K cd20 "_law_parts" = true) (k20 : PySem.W.keepIn K (.ref f20) = true)
    (a21 : PySem.W.nsIn K mainGlobals "_law_worked" = some (some (.ref f21))) (l21 : K.lookup f21 = some ⟨oc21, od21, .func (PySem.W.fnOf "_law_worked" "_law_worked" (defArgs s_law_worked) (defBody s_law_worked) (defScope s_law_worked) .none kV21 dc21 pm21 an21 cd21 ct21), sl21⟩) (c21 : PySem.W.codeIn K cd21 "_law_worked" = true) (k21 : PySem.W.keepIn K (.ref f21) = true)
    (a22 : PySem.W.nsIn K mainGlobals "_law_good" = some (some (.ref f22))) (l22 : K.lookup f22 = some ⟨oc22, od22, .func (PySem.W.fnOf "_law_good" "_law_good" (defArgs s_law_good) (defBody s_law_good) (defScope s_law_good) .none kV22 dc22 pm22 an22 cd22 ct22), sl22⟩) (c22 : PySem.W.codeIn K cd22 "_law_good" = true) (k22 : PySem.W.keepIn K (.ref f22) = true)
    (a23 : PySem.W.nsIn K mainGlobals "law" = some (some (.ref f23))) (l23 : K.lookup f23 = some ⟨oc23, od23, .func (PySem.W.fnOf "law" "law" (defArgs s_law) (defBody s_law) (defScope s_law) .none kV23 dc23 pm23 an23 cd23 ct23), sl23⟩) (c23 : PySem.W.codeIn K cd23 "law" = true) (k23 : PySem.W.keepIn K (.ref f23) = true)
    {aW : Addr} (taW : PySem.W.nsIn K mainGlobals "WITHIN" = some (some (.ref aW))) (tbaW : Tab l.prog w K aW withinD)
    {tLT : Tok} (qLT : PySem.W.nsIn K mainGlobals "LETTERS" = some (some (.str "abcdefghijklmnopqrstuvwxyz" tLT)))
    {tML : Tok} (qML : PySem.W.nsIn K mainGlobals "MOST_LETTERS" = some (some (.int 8 tML)))
    {tMC : Tok} (qMC : PySem.W.nsIn K mainGlobals "MOST_CHOICES" = some (some (.int 9 tMC)))
    {tMD : Tok} (qMD : PySem.W.nsIn K mainGlobals "MOST_DEPTH" = some (some (.int 8 tMD)))
    {tMR : Tok} (qMR : PySem.W.nsIn K mainGlobals "MOST_RECIPES" = some (some (.int 100 tMR)))
    {tLR : Tok} (qLR : PySem.W.nsIn K mainGlobals "LONGEST_ROW" = some (some (.int 3 tLR)))
    (kd : Kinds K)
    (z_len : PySem.W.nsIn K mainGlobals "len" = some none)
    (z_range : PySem.W.nsIn K mainGlobals "range" = some none)
    (z_str : PySem.W.nsIn K mainGlobals "str" = some none)
    (z_int : PySem.W.nsIn K mainGlobals "int" = some none)
    (z_list : PySem.W.nsIn K mainGlobals "list" = some none)
    (z_tuple : PySem.W.nsIn K mainGlobals "tuple" = some none)
    (z_isinstance : PySem.W.nsIn K mainGlobals "isinstance" = some none)
    (z_bool : PySem.W.nsIn K mainGlobals "bool" = some none)
    (z_dict : PySem.W.nsIn K mainGlobals "dict" = some none)
    (z_sum : PySem.W.nsIn K mainGlobals "sum" = some none)
    (z_all : PySem.W.nsIn K mainGlobals "all" = some none)
    (z_any : PySem.W.nsIn K mainGlobals "any" = some none)
    (z_max : PySem.W.nsIn K mainGlobals "max" = some none)
    (z_min : PySem.W.nsIn K mainGlobals "min" = some none)
    (z_sorted : PySem.W.nsIn K mainGlobals "sorted" = some none)
    (z_set : PySem.W.nsIn K mainGlobals "set" = some none)
    (z_enumerate : PySem.W.nsIn K mainGlobals "enumerate" = some none)
    (z_zip : PySem.W.nsIn K mainGlobals "zip" = some none)
    (z_reversed : PySem.W.nsIn K mainGlobals "reversed" = some none)
    (z_abs : PySem.W.nsIn K mainGlobals "abs" = some none)
    : ∃ fd : FuncData, (∀ (s : Shared) (v : Value), BindsTo s fd ⟨[v], []⟩ [("script", v)]) ∧ ∀ base : Heap, K.In base → base.Ns mainGlobals mg → FnOk l.prog w K mg base CX0 13 fa fd ["script"] (spLaw K) := by
  have e := hfa.symm.trans (PySem.W.mg_of X G a23)
  cases e
  have T_is_whole_number : FnT K mg "is_whole_number" s_is_whole_number ["thing"] _ _ := fnT_mk X G a1 l1 c1 k1 (fun us hl => match us, hl with | [_], _ => rfl)
  have T_is_name : FnT K mg "is_name" s_is_name ["thing"] _ _ := fnT_mk X G a2 l2 c2 k2 (fun us hl => match us, hl with | [_], _ => rfl)
  have T_is_choice : FnT K mg "is_choice" s_is_choice ["thing"] _ _ := fnT_mk X G a3 l3 c3 k3 (fun us hl => match us, hl with | [_], _ => rfl)
  have T_has_shape : FnT K mg "has_shape" s_has_shape ["thing"] _ _ := fnT_mk X G a4 l4 c4 k4 (fun us hl => match us, hl with | [_], _ => rfl)
  have T_recipes_within : FnT K mg "recipes_within" s_recipes_within ["r"] _ _ := fnT_mk X G a5 l5 c5 k5 (fun us hl => match us, hl with | [_], _ => rfl)
  have T_is_recipe : FnT K mg "is_recipe" s_is_recipe ["thing"] _ _ := fnT_mk X G a6 l6 c6 k6 (fun us hl => match us, hl with | [_], _ => rfl)
  have T_rows_of : FnT K mg "rows_of" s_rows_of ["reads"] _ _ := fnT_mk X G a7 l7 c7 k7 (fun us hl => match us, hl with | [_], _ => rfl)
  have T_reading : FnT K mg "reading" s_reading ["row"] _ _ := fnT_mk X G a8 l8 c8 k8 (fun us hl => match us, hl with | [_], _ => rfl)
  have T_summed : FnT K mg "summed" s_summed ["parts"] _ _ := fnT_mk X G a9 l9 c9 k9 (fun us hl => match us, hl with | [_], _ => rfl)
  have T_twin_of : FnT K mg "twin_of" s_twin_of ["record", "k"] _ _ := fnT_mk X G a10 l10 c10 k10 (fun us hl => match us, hl with | [_, _], _ => rfl)
  have T_law_cell_at : FnT K mg "_law_cell_at" s_law_cell_at ["script", "k"] _ _ := fnT_mk X G a11 l11 c11 k11 (fun us hl => match us, hl with | [_, _], _ => rfl)
  have T_law_pool : FnT K mg "_law_pool" s_law_pool ["script", "k"] _ _ := fnT_mk X G a12 l12 c12 k12 (fun us hl => match us, hl with | [_, _], _ => rfl)
  have T_law_take : FnT K mg "_law_take" s_law_take ["pool", "many"] _ _ := fnT_mk X G a13 l13 c13 k13 (fun us hl => match us, hl with | [_, _], _ => rfl)
  have T_law_name : FnT K mg "_law_name" s_law_name ["k"] _ _ := fnT_mk X G a14 l14 c14 k14 (fun us hl => match us, hl with | [_], _ => rfl)
  have T_law_summed : FnT K mg "_law_summed" s_law_summed ["reads", "worth"] _ _ := fnT_mk X G a15 l15 c15 k15 (fun us hl => match us, hl with | [_, _], _ => rfl)
  have T_law_settled : FnT K mg "_law_settled" s_law_settled ["house", "name", "state"] _ _ := fnT_mk X G a16 l16 c16 k16 (fun us hl => match us, hl with | [_, _, _], _ => rfl)
  have T_law_look : FnT K mg "_law_look" s_law_look ["house", "name", "state", "reads"] _ _ := fnT_mk X G a17 l17 c17 k17 (fun us hl => match us, hl with | [_, _, _, _], _ => rfl)
  have T_law_value : FnT K mg "_law_value" s_law_value ["house", "r", "state", "reads"] _ _ := fnT_mk X G a18 l18 c18 k18 (fun us hl => match us, hl with | [_, _, _, _], _ => rfl)
  have T_law_record : FnT K mg "_law_record" s_law_record ["script"] _ _ := fnT_mk X G a19 l19 c19 k19 (fun us hl => match us, hl with | [_], _ => rfl)
  have T_law_parts : FnT K mg "_law_parts" s_law_parts ["r"] _ _ := fnT_mk X G a20 l20 c20 k20 (fun us hl => match us, hl with | [_], _ => rfl)
  have T_law_worked : FnT K mg "_law_worked" s_law_worked ["recipe", "numbers"] _ _ := fnT_mk X G a21 l21 c21 k21 (fun us hl => match us, hl with | [_, _], _ => rfl)
  have T_law_good : FnT K mg "_law_good" s_law_good ["record", "k", "pool"] _ _ := fnT_mk X G a22 l22 c22 k22 (fun us hl => match us, hl with | [_, _, _], _ => rfl)
  have T_law : FnT K mg "law" s_law ["script"] _ _ := fnT_mk X G a23 l23 c23 k23 (fun us hl => match us, hl with | [_], _ => rfl)
  have T : Blt mg := ⟨PySem.W.mg_none_of X G z_len, PySem.W.mg_none_of X G z_range, PySem.W.mg_none_of X G z_str, PySem.W.mg_none_of X G z_int, PySem.W.mg_none_of X G z_list, PySem.W.mg_none_of X G z_tuple, PySem.W.mg_none_of X G z_isinstance, PySem.W.mg_none_of X G z_bool, PySem.W.mg_none_of X G z_dict, PySem.W.mg_none_of X G z_sum, PySem.W.mg_none_of X G z_all, PySem.W.mg_none_of X G z_any, PySem.W.mg_none_of X G z_max, PySem.W.mg_none_of X G z_min, PySem.W.mg_none_of X G z_sorted, PySem.W.mg_none_of X G z_set, PySem.W.mg_none_of X G z_enumerate, PySem.W.mg_none_of X G z_zip, PySem.W.mg_none_of X G z_reversed, PySem.W.mg_none_of X G z_abs⟩
  have maW := PySem.W.mg_of X G taW
  have mLT := PySem.W.mg_of X G qLT
  have mML := PySem.W.mg_of X G qML
  have mMC := PySem.W.mg_of X G qMC
  have mMD := PySem.W.mg_of X G qMD
  have mMR := PySem.W.mg_of X G qMR
  have mLR := PySem.W.mg_of X G qLR
  refine ⟨PySem.W.fnOf "law" "law" (defArgs s_law) (defBody s_law) (defScope s_law) .none kV23 dc23 pm23 an23 cd23 ct23, fun s v => .of_eq rfl, fun base _ _ => ?_⟩
  have D1 := ok_is_whole_number (P := l.prog) (w := w) (base := base) T_is_whole_number T kd
  have D2 := ok_is_name (P := l.prog) (w := w) (base := base) T_is_name T kd mLT mML
  have D3 := ok_is_choice (P := l.prog) (w := w) (base := base) T_is_choice T_is_name D2 T kd mMC
  have D4 := ok_has_shape (P := l.prog) (w := w) (base := base) T_has_shape T_is_whole_number D1 T_is_name D2 T_is_choice D3 T kd maW tbaW
  have D5 := ok_recipes_within (P := l.prog) (w := w) (base := base) T_recipes_within T maW tbaW
  have D6 := ok_is_recipe (P := l.prog) (w := w) (base := base) T_is_recipe T_has_shape D4 T_recipes_within D5 T mMR mMD
  have E1 := ok_rows_of (P := l.prog) (w := w) (base := base) T_rows_of T mLR
  have E2 := ok_reading (P := l.prog) (w := w) (base := base) T_reading T
  have E3 := ok_summed (P := l.prog) (w := w) (base := base) T_summed T 4
  have E4 := ok_twin_of (P := l.prog) (w := w) (base := base) T_twin_of T_rows_of E1 T_reading E2 T_summed E3 T_is_recipe D6 T
  have F1 := ok_law_cell_at (P := l.prog) (w := w) (base := base) T_law_cell_at T
  have F2 := ok_law_pool (P := l.prog) (w := w) (base := base) T_law_pool T_law_cell_at F1 T
  have F3 := ok_law_take (P := l.prog) (w := w) (base := base) T_law_take T
  have F4 := ok_law_name (P := l.prog) (w := w) (base := base) T_law_name T
  have F5 := ok_law_summed (P := l.prog) (w := w) (base := base) T_law_summed T
  have F6 := ok_law_cell2 (P := l.prog) (w := w) (base := base) T_law_cell_at T
  have G1 := ok_law_settled (P := l.prog) (w := w) (base := base) T_law_settled T_law_value T
  have G2 := ok_law_look (P := l.prog) (w := w) (base := base) T_law_look T_law_settled G1 T
  have G3 := ok_law_value (P := l.prog) (w := w) (base := base) T_law_value T_law_look G2 T 7
  have G4 := ok_law_record (P := l.prog) (w := w) (base := base) T_law_record T_law_cell_at F6 T_law_pool F2 T_law_take F3 T_law_name F4 T_law_summed F5 T
  have G5 := ok_law_parts (P := l.prog) (w := w) (base := base) T_law_parts T 8
  have G6 := ok_law_worked (P := l.prog) (w := w) (base := base) T_law_worked T_law_value G3 T
  have G7 := ok_law_good (P := l.prog) (w := w) (base := base) T_law_good T_twin_of E4 T_law_parts G5 T_law_worked G6 T_law_take F3 T
  exact ok_law T_law T_law_record G4 T_law_pool F2 T_law_take F3 T_law_good G7 T
theorem walk {l : PySem.W.OpenLaw} {q : Program} {loose : List Str} {XP : (Str → Option Value) → Heap → Prop} {YP : World → Heap → Prop} {d : DefRec} {K : Params → PySem.W.Frag} (hn : l.most = some 63) (hdf : d.params.defaults = [])
    (hY : ∀ (w : World) (h : Heap), YP w h → (K w.params).In h)
    (F : ∀ (w : World) (mg : Str → Option Value) (fa : Addr) (h : Heap), (K w.params).In h → h.Ns mainGlobals mg → mg d.name = some (.ref fa) →
      ∃ fd : FuncData, (∀ (s : Shared) (u : Value), BindsTo s fd ⟨[u], []⟩ [("script", u)]) ∧ ∀ base : Heap, (K w.params).In base → base.Ns mainGlobals mg → FnOk l.prog w (K w.params) mg base CX0 13 fa fd ["script"] (spLaw (K w.params))) :
    PySem.W.WalkO q loose XP YP l.row.toRowW d [] (fun f vs => PySem.call f vs) :=
  L2.walk_of (n := 63) (k := 13) (x := "script") (CX := fun _ => CX0) (sp := fun w => spLaw (K w.params)) hn (by decide) hdf ⟨rfl, by decide, by decide⟩ hY F (fun _ _ a ns hl _ hS => ⟨a, ns, rfl, hS, hl, fun _ => rfl⟩) fun _ _ _ _ _ z => z
end K37
open PySem PySem.W PyProof.Rows
set_option maxRecDepth 100000 in
set_option maxHeartbeats 0 in
theorem PySem.Challenge.cw_madeagain_k37_twins_holds : PySem.Challenge.rw_madeagain_k37_twins.Holds := by
  w_on; o_law; k_head; (case hw => w_witness2)
  k_fill
  refine K37.walk (l := PySem.Challenge.rw_madeagain_k37_twins) rfl rfl (fun w h Y => PySem.W.kIn_of Y) ?F
  case F =>
    intro w mg fa h KX G hmg
    refine' K37.all_mk KX G hmg ?a1 ?l1 ?c1 ?k1 ?a2 ?l2 ?c2 ?k2 ?a3 ?l3 ?c3 ?k3 ?a4 ?l4 ?c4 ?k4 ?a5 ?l5 ?c5 ?k5 ?a6 ?l6 ?c6 ?k6 ?a7 ?l7 ?c7 ?k7 ?a8 ?l8 ?c8 ?k8 ?a9 ?l9 ?c9 ?k9 ?a10 ?l10 ?c10 ?k10 ?a11 ?l11 ?c11 ?k11 ?a12 ?l12 ?c12 ?k12 ?a13 ?l13 ?c13 ?k13 ?a14 ?l14 ?c14 ?k14 ?a15 ?l15 ?c15 ?k15 ?a16 ?l16 ?c16 ?k16 ?a17 ?l17 ?c17 ?k17 ?a18 ?l18 ?c18 ?k18 ?a19 ?l19 ?c19 ?k19 ?a20 ?l20 ?c20 ?k20 ?a21 ?l21 ?c21 ?k21 ?a22 ?l22 ?c22 ?k22 ?a23 ?l23 ?c23 ?k23 ?taW ?tbaW ?qLT ?qML ?qMC ?qMD ?qMR ?qLR ?kd ?z_len ?z_range ?z_str ?z_int ?z_list ?z_tuple ?z_isinstance ?z_bool ?z_dict ?z_sum ?z_all ?z_any ?z_max ?z_min ?z_sorted ?z_set ?z_enumerate ?z_zip ?z_reversed ?z_abs
    (case a1 => k_is); (case l1 => k_is); (case c1 => k_is); (case k1 => k_is)
    (case a2 => k_is); (case l2 => k_is); (case c2 => k_is); (case k2 => k_is)
    (case a3 => k_is); (case l3 => k_is); (case c3 => k_is); (case k3 => k_is)
    (case a4 => k_is); (case l4 => k_is); (case c4 => k_is); (case k4 => k_is)
    (case a5 => k_is); (case l5 => k_is); (case c5 => k_is); (case k5 => k_is)
    (case a6 => k_is); (case l6 => k_is); (case c6 => k_is); (case k6 => k_is)
    (case a7 => k_is); (case l7 => k_is); (case c7 => k_is); (case k7 => k_is)
    (case a8 => k_is); (case l8 => k_is); (case c8 => k_is); (case k8 => k_is)
    (case a9 => k_is); (case l9 => k_is); (case c9 => k_is); (case k9 => k_is)
    (case a10 => k_is); (case l10 => k_is); (case c10 => k_is); (case k10 => k_is)
    (case a11 => k_is); (case l11 => k_is); (case c11 => k_is); (case k11 => k_is)
    (case a12 => k_is); (case l12 => k_is); (case c12 => k_is); (case k12 => k_is)
    (case a13 => k_is); (case l13 => k_is); (case c13 => k_is); (case k13 => k_is)
    (case a14 => k_is); (case l14 => k_is); (case c14 => k_is); (case k14 => k_is)
    (case a15 => k_is); (case l15 => k_is); (case c15 => k_is); (case k15 => k_is)
    (case a16 => k_is); (case l16 => k_is); (case c16 => k_is); (case k16 => k_is)
    (case a17 => k_is); (case l17 => k_is); (case c17 => k_is); (case k17 => k_is)
    (case a18 => k_is); (case l18 => k_is); (case c18 => k_is); (case k18 => k_is)
    (case a19 => k_is); (case l19 => k_is); (case c19 => k_is); (case k19 => k_is)
    (case a20 => k_is); (case l20 => k_is); (case c20 => k_is); (case k20 => k_is)
    (case a21 => k_is); (case l21 => k_is); (case c21 => k_is); (case k21 => k_is)
    (case a22 => k_is); (case l22 => k_is); (case c22 => k_is); (case k22 => k_is)
    (case a23 => k_is); (case l23 => k_is); (case c23 => k_is); (case k23 => k_is)
    (case taW => k_is); (case tbaW => exact L2.tab_mk (by kernel_rfl) (by decide +kernel) (by kernel_rfl))
    (case qLT => k_is)
    (case qML => k_is)
    (case qMC => k_is)
    (case qMD => k_is)
    (case qMR => k_is)
    (case qLR => k_is)
    (case kd => exact RB.kinds_mk (by kernel_rfl))
    (case z_len => k_is); (case z_range => k_is); (case z_str => k_is); (case z_int => k_is); (case z_list => k_is); (case z_tuple => k_is); (case z_isinstance => k_is); (case z_bool => k_is); (case z_dict => k_is); (case z_sum => k_is); (case z_all => k_is); (case z_any => k_is); (case z_max => k_is); (case z_min => k_is); (case z_sorted => k_is); (case z_set => k_is); (case z_enumerate => k_is); (case z_zip => k_is); (case z_reversed => k_is); (case z_abs => k_is)

