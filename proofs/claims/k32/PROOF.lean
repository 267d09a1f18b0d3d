import PyProof.Rows.All
import Wide.All
import OpenK.AllK
import Wide.FinOn
import Lean
import PyProof.EqAt
import PyProof.EqKinds
import PyProof.TupleCall
import KE.KTops
import KE.KIntText
import KE.KTryMore
import PyProof.ExcBaseAll.ValueError
import PyProof.Rows.SetFrom
import PyProof.ZipIter
import KE.KTurns
import KE.KxText
import PyProof.Rows.SumGenD
import KE.KDictList
import PyProof.DictWalks
import KE.KEqDict
import KE.KDictOf
import PyProof.Rows.SortStr
import PyProof.Rows.SortWalk
import PyProof.WalksEnum
import PySem.Challenge.RW_madeagain_k32_papers_judged
set_option Elab.async false
set_option linter.all false
set_option maxRecDepth 100000
/-! THE HAND LAYER, for ints, bools, texts, own classes, LISTS and tuples (index, slices, in, append, pop ..), calls, loops. Paste it whole ahead of your own text; what your proof does not reach may be deleted. -/
namespace L2
open PySem PySem.Spec PyProof.Rows

/-- a key: an int or a str -/
noncomputable abbrev Key := Sum Int Str
noncomputable def keyIs : Key → Value → Bool
  | .inl k, v => Value.isInt k v
  | .inr x, v => Value.isStrOf x v
noncomputable def keyH (w : World) : Key → Int
  | .inl k => hashInt k
  | .inr x => hashStr w x
theorem keyIs_shape : ∀ {k : Key} {v : Value}, keyIs k v = true → (∃ i t, k = Sum.inl i ∧ v = Value.int i t) ∨ (∃ x t, k = Sum.inr x ∧ v = Value.str x t)
  | .inl i, v, h => by
    obtain ⟨t, e⟩ := Value.isInt_shape (k := i) (v := v) h
    exact .inl ⟨i, t, rfl, e⟩
  | .inr x, v, h => by
    obtain ⟨t, e⟩ := Value.isStrOf_shape (x := x) (v := v) h
    exact .inr ⟨x, t, rfl, e⟩
theorem keyIs_int (i : Int) (t : Tok) : keyIs (.inl i) (.int i t) = true := by simp [keyIs, Value.isInt]
theorem keyIs_str (x : Str) (t : Tok) : keyIs (.inr x) (.str x t) = true := by simp [keyIs, Value.isStrOf]
theorem key_ll (a b : Int) : decide ((Sum.inl a : Key) = Sum.inl b) = (a == b) := by
  by_cases e : a = b
  · subst e; simp
  · have h : ¬ (Sum.inl a : Key) = Sum.inl b := fun q => e (Sum.inl.inj q)
    rw [decide_eq_false h]
    exact (beq_eq_false_iff_ne.mpr e).symm
theorem key_rr (a b : Str) : decide ((Sum.inr a : Key) = Sum.inr b) = decide (a = b) := by
  by_cases e : a = b
  · subst e; simp
  · have h : ¬ (Sum.inr a : Key) = Sum.inr b := fun q => e (Sum.inr.inj q)
    rw [decide_eq_false h, decide_eq_false e]
theorem key_lr (a : Int) (b : Str) : decide ((Sum.inl a : Key) = Sum.inr b) = false := decide_eq_false (fun q => nomatch q)
theorem key_rl (a : Str) (b : Int) : decide ((Sum.inr a : Key) = Sum.inl b) = false := decide_eq_false (fun q => nomatch q)

noncomputable def mixKind (prog : Program) (w : World) : PySem.KeyKind prog w Key where
  is := keyIs
  hash := keyH w
  inj := fun v a b ha hb => by
    rcases keyIs_shape ha with ⟨i, t, rfl, rfl⟩ | ⟨x, t, rfl, rfl⟩
    · rcases keyIs_shape hb with ⟨j, u, rfl, e⟩ | ⟨y, u, rfl, e⟩
      · injection e with e1 _; rw [e1]
      · exact nomatch e
    · rcases keyIs_shape hb with ⟨j, u, rfl, e⟩ | ⟨y, u, rfl, e⟩
      · exact nomatch e
      · injection e with e1 _; rw [e1]
  byValue := fun k v h => by
    rcases keyIs_shape h with ⟨i, t, rfl, rfl⟩ | ⟨x, t, rfl, rfl⟩ <;> rfl
  pyHash := fun hv h => by
    rcases keyIs_shape hv with ⟨i, t, rfl, rfl⟩ | ⟨x, t, rfl, rfl⟩
    · exact wpAny_pyHash_int h
    · exact wpAny_pyHash_str h
  eqBool := fun hu hv h => by
    rcases keyIs_shape hu with ⟨i, t, rfl, rfl⟩ | ⟨x, t, rfl, rfl⟩
    · rcases keyIs_shape hv with ⟨j, u, rfl, rfl⟩ | ⟨y, u, rfl, rfl⟩
      · rw [key_ll] at h; exact wpAny_eqBool_int h
      · rw [key_lr] at h; exact SeqAt.EqAt.int_str i t y u _ _ _ _ h
    · rcases keyIs_shape hv with ⟨j, u, rfl, rfl⟩ | ⟨y, u, rfl, rfl⟩
      · rw [key_rl] at h; exact SeqAt.EqAt.str_int x t j u _ _ _ _ h
      · rw [key_rr] at h; exact wpAny_eqBool_str h
  «strs» := fun k x t v h => by
    rcases keyIs_shape h with ⟨i, u, rfl, e⟩ | ⟨y, u, rfl, e⟩
    · exact nomatch e
    · injection e with e1 _
      subst e1
      cases v <;> rfl

theorem mixKind_int (prog : Program) (w : World) (i : Int) (t : Tok) : (mixKind prog w).is (.inl i) (.int i t) = true := keyIs_int i t
theorem mixKind_str (prog : Program) (w : World) (x : Str) (t : Tok) : (mixKind prog w).is (.inr x) (.str x t) = true := keyIs_str x t
end L2

namespace L2
open PySem PySem.Spec PyProof.Rows

/-- a value, without the heap -/
inductive V where
  | non | bl (b : Bool) | int (i : Int) | str (x : Str) | byt (b : Array UInt8) | flt (b : UInt64) | ref (a : Addr) | ty (n : String)
  deriving DecidableEq

noncomputable def RelV : V → Value → Prop
  | .non, u => u = Value.none
  | .bl b, u => u = Value.bool b
  | .int i, u => ∃ t, u = Value.int i t
  | .str x, u => ∃ t, u = Value.str x t
  | .byt b, u => ∃ t, u = Value.bytes b t
  | .flt b, u => ∃ t, u = Value.float b t
  | .ref a, u => u = Value.ref a
  | .ty n, u => u = Value.type n

noncomputable abbrev Vals : List V → List Value → Prop := Paired RelV
theorem Vals.length {xs : List V} {us : List Value} (r : Vals xs us) : xs.length = us.length := Paired.length r
theorem Vals.get : ∀ {xs : List V} {us : List Value} {i : Nat} {x : V}, Vals xs us → xs[i]? = some x → ∃ u, us[i]? = some u ∧ RelV x u
  | _, _, _, _, .nil, e => by simp at e
  | _, _, 0, _, .cons r _, e => by simp at e; subst e; exact ⟨_, rfl, r⟩
  | _, _, i + 1, x, .cons _ t, e => by
    obtain ⟨u, h1, h2⟩ := Vals.get (i := i) (x := x) t (by simpa using e)
    exact ⟨u, by simpa using h1, h2⟩
theorem Vals.append : ∀ {xs ys : List V} {us ws : List Value}, Vals xs us → Vals ys ws → Vals (xs ++ ys) (us ++ ws)
  | _, _, _, _, .nil, s => s
  | _, _, _, _, .cons r t, s => .cons r (Vals.append t s)
theorem Vals.take : ∀ {xs : List V} {us : List Value} (n : Nat), Vals xs us → Vals (xs.take n) (us.take n)
  | _, _, 0, _ => .nil
  | _, _, _ + 1, .nil => .nil
  | _, _, n + 1, .cons r t => .cons r (Vals.take n t)
theorem Vals.drop : ∀ {xs : List V} {us : List Value} (n : Nat), Vals xs us → Vals (xs.drop n) (us.drop n)
  | _, _, 0, r => r
  | _, _, _ + 1, .nil => .nil
  | _, _, n + 1, .cons _ t => Vals.drop n t

noncomputable def RelO : Option V → Option Value → Prop
  | some v, some u => RelV v u
  | none, none => True
  | _, _ => False
noncomputable def KV {κ : Type} : List (κ × V) → List (κ × Value) → Prop := Paired fun (p : κ × V) (q : κ × Value) => p.1 = q.1 ∧ RelV p.2 q.2

/-- a key of a dict (00_mix): an int or a text -/
noncomputable def kV : Key → V
  | .inl i => .int i
  | .inr x => .str x

/-- what stands at a tracked address -/
inductive HO where
  /-- a list -/
  | lst (xs : List V)
  /-- a tuple (never changes) -/
  | tup (xs : List V)
  /-- a dict whose keys are ints and texts; one whose keys are tuples of ints and texts (the empty one is both) -/
  | dK (kvs : List (Key × V)) | dT (kvs : List (List Key × V))
  /-- a set of ints: its members, its size -/
  | set (S : Int → Bool) (n : Nat)
  /-- an instance of the class at C, its dict at dx, its attributes -/
  | ins (C dx : Addr) (fs : List (Str × V))
  /-- the dict of the instance at x -/
  | own (x : Addr)
  /-- the dict of an exception -/
  | xd (fs : List (Str × V))
  /-- a bound method, f of x -/
  | met (f x : Addr)
  /-- a range object lo, lo + 1, .. below hi -/
  | rng (lo hi : Int)
  /-- a thing that is known to the object (the script; a dict while a loop walks it): read, never written while it is so -/
  | frz (o : Obj) (u : HO)
  /-- a code object's table -/
  | tbl (ps : Array Value)
  /-- any other thing, by what is true of its one object (a def of one's own: SetO a S n := HO.ext fun h => ..) -/
  | ext (φ : Heap → Prop)

noncomputable abbrev Hp := Addr → Option HO
noncomputable def upd (H : Hp) (a : Addr) (o : HO) : Hp := fun b => if b = a then some o else H b
theorem upd_same {H : Hp} {a : Addr} {o : HO} : upd H a o a = some o := by unfold upd; rw [if_pos rfl]
theorem upd_ne {H : Hp} {a b : Addr} {o : HO} (h : b ≠ a) : upd H a o b = H b := by unfold upd; rw [if_neg h]
/-- two objects of different content stand apart -/
theorem ne_of {H : Hp} {a b : Addr} {o u : HO} (h : H a = some o) (h' : H b = some u) (d : o ≠ u) : a ≠ b := by
  intro e; subst e; rw [h] at h'; exact d (Option.some.inj h')
theorem ne_of_none {H : Hp} {a b : Addr} {o : HO} (h : H a = some o) (h' : H b = none) : a ≠ b := by
  intro e; subst e; rw [h] at h'; cases h'

section
variable (P : Program) (w : World)
noncomputable def ObjOk (H : Hp) (h : Heap) (a : Addr) : HO → Prop
  | .lst xs => xs.length ≤ sizeLine ∧ ∃ (its : List Value) (n : Nat), Vals xs its ∧ h.get? a = some { cls := .type "list", data := .seq its.toArray n }
  | .tup xs => xs.length ≤ sizeLine ∧ ∃ its : List Value, Vals xs its ∧ IsTup h a its.toArray
  | .dK kvs => kvs.length ≤ sizeLine ∧ (a == sysModules) = false ∧ ∃ vs, KV kvs vs ∧ h.DictOf (mixKind P w) a vs
  | .dT kvs => kvs.length ≤ sizeLine ∧ (a == sysModules) = false ∧ ∃ xs : List (List Key × Addr × Value),
      Paired (fun (p : List Key × V) (q : List Key × Addr × Value) => p.1 = q.1 ∧ H q.2.1 = some (.tup (p.1.map kV)) ∧ RelV p.2 q.2.2) kvs xs ∧
      ∃ o es ep, h.get? a = some o ∧ o.ExactDict ∧ o.data = .dict es ep ∧ es.toList = xs.map (entryOfKey (tupleKind (mixKind P w))) ∧ (xs.map (·.1)).Nodup
  | .set S n => h.SetOf (intKind P w) a S n
  | .ins C dx fs => H dx = some (.own a) ∧ fs.length ≤ 1000 ∧ dx ≠ a ∧ h.get? a = some (PySem.W.instObj C dx) ∧
      ∃ mA, h.Ns1 dx mA ∧ (∀ f, RelO (fs.lookup f) (mA f)) ∧ PySem.Within mA (fs.map (·.1))
  | .own _ => ∃ o, h.get? a = some o
  | .xd fs => ∃ mA, h.Ns1 a mA ∧ ∀ f, RelO (fs.lookup f) (mA f)
  | .rng lo hi => ∃ t u v, h.get? a = some { cls := .type "range", data := .fields #[.int lo t, .int hi u, .int 1 v] }
  | .frz o u => h.get? a = some o ∧ ObjOk H h a u
  | .tbl ps => h.get? a = some { cls := .none, data := .fields ps }
  | .met f x => h.get? a = some (PySem.W.methodObj (.ref f) (.ref x))
  | .ext φ => φ h ∧ (∃ o, h.get? a = some o) ∧ ∀ h1 h2 : Heap, φ h1 → (∀ o, h1.get? a = some o → h2.get? a = some o) → φ h2
/-- the abstract heap is held -/
noncomputable def HOk (H : Hp) (h : Heap) : Prop := ∀ a o, H a = some o → ObjOk P w H h a o
end

section
variable {P : Program} {w : World} {H H' : Hp} {h h' : Heap} {a : Addr} {o : HO}
theorem ObjOk.lt (x : ObjOk P w H h a o) : a < h.objs.size := by
  cases o with
  | lst xs => obtain ⟨_, _, _, _, e⟩ := x; exact Heap.lt_size e
  | tup xs => obtain ⟨_, _, _, p⟩ := x; exact p.lt
  | dK kvs => obtain ⟨_, _, _, _, o, _, _, e, _⟩ := x; exact Heap.lt_size e
  | dT kvs => obtain ⟨_, _, _, _, o, _, _, e, _⟩ := x; exact Heap.lt_size e
  | set S n => obtain ⟨o, _, _, _, e, _⟩ := x; exact Heap.lt_size e
  | ins C dx fs => obtain ⟨_, _, _, e, _⟩ := x; exact Heap.lt_size e
  | own y => obtain ⟨_, e⟩ := x; exact Heap.lt_size e
  | xd fs => obtain ⟨_, ⟨_, _, _, e, _⟩, _⟩ := x; exact Heap.lt_size e
  | rng lo hi => obtain ⟨_, _, _, e⟩ := x; exact Heap.lt_size e
  | frz ob u => obtain ⟨e, _⟩ := x; exact Heap.lt_size e
  | tbl ps => exact Heap.lt_size (show h.get? a = some _ from x)
  | met f y => exact Heap.lt_size (show h.get? a = some _ from x)
  | ext φ => obtain ⟨_, ⟨_, e⟩, _⟩ := x; exact Heap.lt_size e
theorem Paired.mapP {α β : Type} {F G : α → β → Prop} : ∀ {l₁ : List α} {l₂ : List β}, Paired F l₁ l₂ → (∀ a b, F a b → G a b) → Paired G l₁ l₂
  | _, _, .nil, _ => .nil
  | _, _, .cons r t, f => .cons (f _ _ r) (Paired.mapP t f)
/-- what an object's description leans on: its own object, its own dict, the tuples -/
theorem ObjOk.stay (x : ObjOk P w H h a o) (k : ∀ b u, (b = a ∨ H b = some (.own a)) → h.get? b = some u → h'.get? b = some u)
    (ho : ∀ b, H b = some (.own a) → H' b = some (.own a)) (ht : ∀ b xs, H b = some (.tup xs) → H' b = some (.tup xs)) : ObjOk P w H' h' a o := by
  induction o with
  | lst xs => obtain ⟨z, its, n, r, e⟩ := x; exact ⟨z, its, n, r, k _ _ (.inl rfl) e⟩
  | tup xs => obtain ⟨z, its, r, ob, e, c⟩ := x; exact ⟨z, its, r, ob, k _ _ (.inl rfl) e, c⟩
  | dK kvs => obtain ⟨z, y, vs, r, ob, es, ep, e, c⟩ := x; exact ⟨z, y, vs, r, ob, es, ep, k _ _ (.inl rfl) e, c⟩
  | dT kvs =>
    obtain ⟨z, y, xs, r, ob, es, ep, e, c⟩ := x
    exact ⟨z, y, xs, Paired.mapP r fun p q z => ⟨z.1, ht _ _ z.2.1, z.2.2⟩, ob, es, ep, k _ _ (.inl rfl) e, c⟩
  | set S n => obtain ⟨ob, es, ep, t, e, c⟩ := x; exact ⟨ob, es, ep, t, k _ _ (.inl rfl) e, c⟩
  | ins C dx fs =>
    obtain ⟨d, z, ne, e, mA, ⟨od, es, ep, e2, c⟩, r⟩ := x
    exact ⟨ho _ d, z, ne, k _ _ (.inl rfl) e, mA, ⟨od, es, ep, k _ _ (.inr d) e2, c⟩, r⟩
  | own y => obtain ⟨ob, e⟩ := x; exact ⟨ob, k _ _ (.inl rfl) e⟩
  | xd fs => obtain ⟨mA, ⟨od, es, ep, e, c⟩, r⟩ := x; exact ⟨mA, ⟨od, es, ep, k _ _ (.inl rfl) e, c⟩, r⟩
  | rng lo hi => obtain ⟨t, u, v, e⟩ := x; exact ⟨t, u, v, k _ _ (.inl rfl) e⟩
  | frz ob u ih => obtain ⟨e, q⟩ := x; exact ⟨k _ _ (.inl rfl) e, ih q⟩
  | tbl ps =>
    have e : h.get? a = some { cls := .none, data := .fields ps } := x
    show h'.get? a = some { cls := .none, data := .fields ps }
    exact k a _ (.inl rfl) e
  | met f y =>
    have e : h.get? a = some (PySem.W.methodObj (.ref f) (.ref y)) := x
    show h'.get? a = some (PySem.W.methodObj (.ref f) (.ref y))
    exact k a _ (.inl rfl) e
  | ext φ => obtain ⟨p, ⟨o, e⟩, st⟩ := x; exact ⟨st _ _ p fun o q => k _ _ (.inl rfl) q, ⟨o, k _ _ (.inl rfl) e⟩, st⟩
theorem HOk.lt (x : HOk P w H h) (e : H a = some o) : a < h.objs.size := (x a o e).lt
theorem HOk.fresh (x : HOk P w H h) (e : h.objs.size ≤ a) : H a = none := by
  cases q : H a with
  | none => rfl
  | some u => exact absurd (Nat.lt_of_lt_of_le (x.lt q) e) (Nat.lt_irrefl _)
/-- every object of the heap is kept -/
theorem HOk.kept (x : HOk P w H h) (k : ∀ b u, h.get? b = some u → h'.get? b = some u) : HOk P w H h' := fun a o e =>
  (x a o e).stay (fun b u _ q => k b u q) (fun _ q => q) fun _ _ q => q
/-- a new object is laid and tracked -/
theorem HOk.laid (x : HOk P w H h) (k : ∀ b u, h.get? b = some u → h'.get? b = some u) (hp : h.objs.size ≤ a) (new : ObjOk P w (upd H a o) h' a o) : HOk P w (upd H a o) h' := fun b u e => by
  have hn := x.fresh hp
  by_cases hb : b = a
  · subst hb; rw [upd_same] at e; cases e; exact new
  · rw [upd_ne hb] at e
    exact (x b u e).stay (fun c v _ q => k c v q) (fun c q => by rw [upd_ne (ne_of_none q hn)]; exact q) fun c xs q => by rw [upd_ne (ne_of_none q hn)]; exact q
end

/-- what may be read as u: it is u, or a known u -/
noncomputable def Rd (H : Hp) (a : Addr) (u : HO) : Prop := H a = some u ∨ ∃ o, H a = some (.frz o u)
theorem Rd.ok {P : Program} {w : World} {H : Hp} {h : Heap} {a : Addr} {u : HO} (r : Rd H a u) (x : HOk P w H h) : ObjOk P w H h a u := by
  rcases r with r | ⟨o, r⟩
  · exact x a u r
  · obtain ⟨_, q⟩ := x a _ r
    exact q
/-- what may be written -/
noncomputable def Mut : Option HO → Prop
  | some (.lst _) => True
  | some (.dK _) => True
  | some (.dT _) => True
  | some (.set _ _) => True
  | some (.ins _ _ _) => True
  | some (.ext _) => True
  | _ => False
section
variable {P : Program} {w : World} {H : Hp} {h h' : Heap} {x e : Addr} {o' : HO}
/-- the object at e is changed: x itself, or the dict of the instance x -/
theorem HOk.write (ok : HOk P w H h) (mu : Mut (H x)) (he : e = x ∨ H e = some (.own x)) (k : ∀ b u, b ≠ e → h.get? b = some u → h'.get? b = some u) (heo : ∃ u, h'.get? e = some u)
    (new : ObjOk P w (upd H x o') h' x o') : HOk P w (upd H x o') h' := fun b u q => by
  have nown : ∀ c y, H c = some (.own y) → c ≠ x := fun c y r z => by subst z; rw [r] at mu; exact mu
  have ntup : ∀ c xs, H c = some (.tup xs) → c ≠ x := fun c xs r z => by subst z; rw [r] at mu; exact mu
  by_cases hb : b = x
  · subst hb; rw [upd_same] at q; cases q; exact new
  · rw [upd_ne hb] at q
    by_cases hbe : b = e
    · have q' : H b = some (.own x) := by
        rcases he with z | z
        · exact absurd (hbe.trans z) hb
        · rw [hbe]; exact z
      rw [q] at q'; cases q'
      obtain ⟨v, hv⟩ := heo
      exact ⟨v, by rw [hbe]; exact hv⟩
    · refine (ok b u q).stay (fun c v hc r => k c v ?_ r) (fun c r => by rw [upd_ne (nown c b r)]; exact r) fun c xs r => by rw [upd_ne (ntup c xs r)]; exact r
      rcases hc with rfl | hc
      · exact hbe
      · rintro rfl
        rcases he with z | z
        · exact nown c b hc z
        · rw [hc] at z; cases z; exact hb rfl
end

/-! ### kept unless tracked; of the frames at fs (the callers') the slots may change (an exception that passes writes there); of the records at ex (iterators) nothing is said -/
structure Un (fs ex : List Addr) (H H' : Hp) (h h' : Heap) : Prop where
  keep : ∀ b o, h.get? b = some o → H b = none → b ∉ fs → b ∉ ex → h'.get? b = some o
  slot : ∀ b o, h.get? b = some o → H b = none → b ∈ fs → b ∉ ex → ∃ sl, h'.get? b = some { o with slots := sl }
  free : ∀ b o, h.get? b = some o → H b = none → b ∉ ex → H' b = none
  there : ∀ b o, h.get? b = some o → b ∉ ex → ∃ o', h'.get? b = some o'
  tups : ∀ b xs, H b = some (.tup xs) → H' b = some (.tup xs)
  frzs : ∀ b o u, H b = some (.frz o u) → H' b = some (.frz o u)
  tbls : ∀ b ps, H b = some (.tbl ps) → ∃ more, H' b = some (.tbl (ps ++ more))
section
variable {fs fs' ex ex' : List Addr} {H H1 H2 : Hp} {h h1 h2 h' : Heap} {a x e : Addr} {o : HO}
theorem Un.any (u : Un fs ex H H1 h h1) {b : Addr} {ob : Obj} (q : h.get? b = some ob) (n : H b = none) (hx : b ∉ ex) : ∃ sl, h1.get? b = some { ob with slots := sl } := by
  by_cases hb : b ∈ fs
  · exact u.slot b ob q n hb hx
  · exact ⟨ob.slots, u.keep b ob q n hb hx⟩
theorem Un.kept (k : ∀ b u, h.get? b = some u → h'.get? b = some u) : Un fs ex H H h h' :=
  ⟨fun b ob q _ _ _ => k b ob q, fun b ob q _ _ _ => ⟨ob.slots, k b ob q⟩, fun _ _ _ n _ => n, fun b ob q _ => ⟨ob, k b ob q⟩, fun _ _ q => q, fun _ _ _ q => q, fun _ ps q => ⟨#[], by rw [q]; simp⟩⟩
theorem Un.refl : Un fs ex H H h h := Un.kept fun _ _ q => q
theorem Un.laid (k : ∀ b u, h.get? b = some u → h'.get? b = some u) (hp : h.objs.size ≤ a) (hn : H a = none) : Un fs ex H (upd H a o) h h' where
  keep := fun b u q _ _ _ => k b u q
  slot := fun b u q _ _ _ => ⟨u.slots, k b u q⟩
  free := fun b u q n _ => by rw [upd_ne (Nat.ne_of_lt (Nat.lt_of_lt_of_le (Heap.lt_size q) hp))]; exact n
  there := fun b u q _ => ⟨u, k b u q⟩
  tups := fun b xs q => by rw [upd_ne (ne_of_none q hn)]; exact q
  frzs := fun b u xs q => by rw [upd_ne (ne_of_none q hn)]; exact q
  tbls := fun b ps q => ⟨#[], by rw [upd_ne (ne_of_none q hn), q]; simp⟩
theorem Un.write (mu : Mut (H x)) (he : e = x ∨ H e = some (.own x)) (k : ∀ b u, b ≠ e → h.get? b = some u → h'.get? b = some u) (heo : ∃ u, h'.get? e = some u) : Un fs ex H (upd H x o) h h' := by
  have hx : ∀ b, H b = none → b ≠ x := fun b n z => by subst z; rw [n] at mu; exact mu
  have hb : ∀ b, H b = none → b ≠ e := fun b n z => by
    subst z
    rcases he with r | r
    · exact hx b n r
    · rw [n] at r; cases r
  have hm : ∀ b u, H b = some u → ¬ Mut (some u) → b ≠ x := fun b u q nm z => by subst z; rw [q] at mu; exact nm mu
  refine ⟨fun b u q n _ _ => k b u (hb b n) q, fun b u q n _ _ => ⟨u.slots, k b u (hb b n) q⟩, fun b u q n _ => by rw [upd_ne (hx b n)]; exact n, fun b u q _ => ?_,
    fun b xs q => by rw [upd_ne (hm b _ q fun z => z)]; exact q, fun b u xs q => by rw [upd_ne (hm b _ q fun z => z)]; exact q, fun b ps q => ⟨#[], by rw [upd_ne (hm b _ q fun z => z), q]; simp⟩⟩
  by_cases hbe : b = e
  · subst hbe; exact heo
  · exact ⟨u, k b u hbe q⟩
end

/-! ### the heap without what is tracked -/
noncomputable def trk (h : Heap) (H : Hp) : List Addr := (List.range h.objs.size).filter fun a => (H a).isSome
noncomputable def hidT (h : Heap) (H : Hp) : Heap := PySem.W.hideAll h (trk h H)
theorem hidT_size (h : Heap) (H : Hp) : (hidT h H).objs.size = h.objs.size := PySem.W.hideAll_size _ _
theorem hidT_get {h : Heap} {H : Hp} {b : Addr} {o : Obj} (e : h.get? b = some o) (n : H b = none) : (hidT h H).get? b = some o :=
  PySem.W.hideAll_get _ e fun hm => by
    have q : (H b).isSome = true := (List.mem_filter.mp hm).2
    rw [n] at q; simp at q
theorem of_hidT {h : Heap} {H : Hp} {b : Addr} {o : Obj} (e : (hidT h H).get? b = some o) : h.get? b = some o ∧ H b = none := by
  have e' : h.get? b = some o := PySem.W.of_hideAll (trk h H) e
  refine ⟨e', ?_⟩
  cases q : H b with
  | none => rfl
  | some x =>
    have hm : b ∈ trk h H := List.mem_filter.mpr ⟨List.mem_range.mpr (Heap.lt_size e'), by simp [q]⟩
    have z : (hidT h H).get? b = none := PySem.W.hideAll_none (trk h H) hm
    rw [z] at e; cases e

/-! ### OpenK's ledger, filled with every new object but one -/
end L2

namespace L2
open PySem PySem.Spec PyProof.Rows

/-- the module's facts, over the base: the heap at the law's entry without what is tracked there -/
structure Mod (K : PySem.W.Frag) (mg : Str → Option Value) (base : Heap) : Prop where
  kin : K.In base
  glob : base.Ns mainGlobals mg
  blt : ∃ mb, base.Ns builtinsNs mb ∧ ∀ x : Str, x ≠ "__name__" → mb x = bootBuiltins x
  nolimit : base.NoLimit

/-- the context: a def's body (or a comprehension's block) running. base: fixed through the whole law; s₀, H₀: the entry; outer: the frames whose slots others may change (a def's callers); stack: all frames that run;
   ex: iterators that were made ahead of the entry and are walked here (a comprehension's); fn: the names whose cells were made at the entry (a def: all; a comprehension's block: its own); calm: not within an except suite; pn: pins that every state bears; xe: what is wanted of an exception that leaves the code -/
structure Cx where
  prog : Program
  w : World
  K : PySem.W.Frag
  mg : Str → Option Value
  base : Heap
  A : Around
  N : List Str
  s₀ : Shared
  H₀ : Hp
  env : Env
  outer : List Env
  stack : List Env
  ex : List Addr
  fn : Str → Bool
  calm : Bool
  pn : List (Addr × Obj)
  xe : Value → Shared → Prop
/-- the callers' frames -/
noncomputable def frs (l : List Env) : List Addr := l.filterMap (·.frame)
noncomputable abbrev Cx.fs (X : Cx) : List Addr := frs X.outer

noncomputable def Vis (sc : Scope) (x : Str) : Prop := sc.names.lookup x = some .local ∨ sc.names.lookup x = some .cell ∨ sc.names.lookup x = some .free
noncomputable def Loc (sc : Scope) (x : Str) : Prop := sc.names.lookup x = some .local ∨ sc.names.lookup x = some .cell
noncomputable def Look (env : Env) (h : Heap) (m : Str → Option Value) (x : Str) (u : Value) : Prop :=
  (env.kindOf x = some .local ∧ m x = some u) ∨ ((env.kindOf x = some .cell ∨ env.kindOf x = some .free) ∧ ∃ c, env.cells.lookup x = some c ∧ h.IsCell c (some u))

structure Cx.Ok (X : Cx) : Prop where
  mod : Mod X.K X.mg X.base
  kind : X.env.scope.kind = .function
  glob : X.env.globals = mainGlobals
  blt : X.env.builtins = builtinsNs
  above : X.s₀.heap.objs.size ≤ X.env.locals
  inj : ∀ x y c, X.env.cells.lookup x = some c → X.env.cells.lookup y = some c → x = y
  has : ∀ x, (X.env.kindOf x = some .cell ∨ X.env.kindOf x = some .free) → ∃ c, X.env.cells.lookup x = some c
  cab : ∀ x c, X.fn x = true → X.env.cells.lookup x = some c → X.s₀.heap.objs.size ≤ c
  hd : X.calm = true → X.A.handled = none
  frames : X.A.frames = some X.stack
  stk : X.stack = X.outer ∨ (X.stack = X.env :: X.outer ∧ X.env.frame = some X.env.locals)
  exf : ∀ b ∈ X.ex, b ≠ X.env.locals ∧ ∀ x c, X.env.cells.lookup x = some c → c ≠ b
  bs : ∀ b o, X.base.get? b = some o → X.s₀.heap.get? b = some o ∧ X.H₀ b = none
  bsz : X.base.objs.size ≤ X.s₀.heap.objs.size
  noex : ∀ b o, X.base.get? b = some o → b ∉ X.ex
  exfs : ∀ b ∈ X.ex, b ∉ X.fs
  funs : X.s₀.heap.FunFrames X.base X.outer
  frf : ∀ b ∈ X.fs, X.H₀ b = none

structure Inv (X : Cx) (pins : List (Addr × Obj)) (σ : List (Option V)) (H : Hp) (s : Shared) : Prop where
  ok : X.Ok
  os : s.os = X.s₀.os
  bare : AllBare s.gens
  base : Un X.fs X.ex X.H₀ H X.s₀.heap s.heap
  loc : ∃ m, s.heap.Ns X.env.locals m ∧ ∀ (i : Nat) (x : Str) (v : V), X.N[i]? = some x → σ[i]? = some (some v) → Vis X.env.scope x → ∃ u, RelV v u ∧ Look X.env s.heap m x u
  cell : ∀ x c, X.env.cells.lookup x = some c → ∃ v, s.heap.IsCell c v
  free : H X.env.locals = none
  freeC : ∀ x c, X.env.cells.lookup x = some c → H c = none
  pin : ∀ p ∈ X.pn ++ pins, s.heap.get? p.1 = some p.2 ∧ H p.1 = none ∧ p.1 ≠ X.env.locals ∧ p.1 ∉ X.fs ∧ ∀ v, p.2.data ≠ .cell v
  hok : HOk X.prog X.w H s.heap
  len : σ.length = X.N.length

section
variable {X : Cx} {pins : List (Addr × Obj)} {σ : List (Option V)} {H H' : Hp} {s : Shared} {h' : Heap}

theorem Cx.Ok.nofr (ok : X.Ok) {b : Addr} {o : Obj} (e : X.base.get? b = some o) : b ∉ X.fs := fun hb => by
  have := (ok.funs.mem hb).1
  rw [e] at this; cases this
theorem Inv.bs (I : Inv X pins σ H s) : ∀ b o, X.base.get? b = some o → s.heap.get? b = some o ∧ H b = none := fun b o e =>
  ⟨I.base.keep b o (I.ok.bs b o e).1 (I.ok.bs b o e).2 (I.ok.nofr e) (I.ok.noex b o e), I.base.free b o (I.ok.bs b o e).1 (I.ok.bs b o e).2 (I.ok.noex b o e)⟩
theorem Inv.bk (I : Inv X pins σ H s) : ∀ b o, X.base.get? b = some o → s.heap.get? b = some o := fun b o e => (I.bs b o e).1
theorem Inv.mod (I : Inv X pins σ H s) : Mod X.K X.mg X.base := I.ok.mod
theorem Inv.kIn (I : Inv X pins σ H s) : X.K.In s.heap := I.ok.mod.kin.keeps I.bk
theorem Inv.lt (I : Inv X pins σ H s) : X.env.locals < s.heap.objs.size := let ⟨_, hn, _⟩ := I.loc; hn.lt
theorem Inv.sz (I : Inv X pins σ H s) : X.s₀.heap.objs.size ≤ s.heap.objs.size := Nat.le_trans I.ok.above (Nat.le_of_lt I.lt)
theorem Inv.nofs (I : Inv X pins σ H s) {a : Addr} (h : s.heap.objs.size ≤ a) : a ∉ X.fs := fun hb => by
  obtain ⟨_, o, ho, _⟩ := I.ok.funs.mem hb
  exact absurd (Nat.lt_of_lt_of_le (Heap.lt_size ho) (Nat.le_trans I.sz h)) (Nat.lt_irrefl _)
theorem Inv.cne (I : Inv X pins σ H s) : ∀ x c, X.env.cells.lookup x = some c → c ≠ X.env.locals := fun x c e z => by
  obtain ⟨v, o, ho, hd⟩ := I.cell x c e
  obtain ⟨m, ⟨o', es, ep, ho', hd', _⟩, _⟩ := I.loc
  rw [z, ho'] at ho; cases ho; rw [hd'] at hd; cases hd
theorem Inv.funs (I : Inv X pins σ H s) : s.heap.FunFrames X.base X.outer := by
  have all : ∀ (l : List Env), (∀ b ∈ frs l, b ∈ X.fs) → X.s₀.heap.FunFrames X.base l → s.heap.FunFrames X.base l := by
    intro l
    induction l with
    | nil => intro _ _; trivial
    | cons env r ih =>
      intro hs hl
      obtain ⟨hk, ⟨L, o, hf, hn, ho, hd⟩, hr⟩ := hl
      have hL : L ∈ X.fs := hs L (by unfold frs; rw [List.filterMap_cons, hf]; exact List.mem_cons_self)
      obtain ⟨sl, e⟩ := I.base.slot L o ho (I.ok.frf L hL) hL fun z => I.ok.exfs L z hL
      exact ⟨hk, ⟨L, _, hf, hn, e, hd⟩, ih (fun b hb => hs b (by unfold frs; rw [List.filterMap_cons, hf]; exact List.mem_cons_of_mem _ hb)) hr⟩
  exact all X.outer (fun _ hb => hb) I.ok.funs

/-- the frames that run, for a call -/
theorem Inv.stack (I : Inv X pins σ H s) : s.heap.FunFrames X.base X.stack := by
  rcases I.ok.stk with e | ⟨e, hf⟩
  · rw [e]; exact I.funs
  · rw [e]
    obtain ⟨m, hn, _⟩ := I.loc
    refine .cons (by rw [I.ok.kind]; decide) hf hn ?_ I.funs
    exact Heap.get?_none_of_le (Nat.le_trans I.ok.bsz I.ok.above)
theorem Inv.stkSub (I : Inv X pins σ H s) : ∀ b ∈ frs X.stack, b ∈ X.env.locals :: X.fs := fun b hb => by
  rcases I.ok.stk with e | ⟨e, hf⟩
  · rw [e] at hb; exact List.mem_cons_of_mem _ hb
  · rw [e] at hb
    unfold frs at hb
    rw [List.filterMap_cons, hf] at hb
    exact hb
theorem Inv.stkFree (I : Inv X pins σ H s) : ∀ b ∈ frs X.stack, H b = none := fun b hb => by
  rcases List.mem_cons.mp (I.stkSub b hb) with e | hb
  · rw [e]; exact I.free
  · obtain ⟨_, o, ho, _⟩ := I.ok.funs.mem hb
    exact I.base.free b o ho (I.ok.frf b hb) fun z => I.ok.exfs b z hb

/-- THE STEP: the untracked objects but the frame and the records at ch are kept (the callers' frames up to slots), the frame's map is kept, the new abstract heap is held -/
theorem Inv.step {g' : Array GenState} {t' : Nat} {d' : Drawn} {ch : List Addr} (I : Inv X pins σ H s)
    (hch : ∀ b ∈ ch, (b ∈ X.ex ∨ X.s₀.heap.objs.size ≤ b) ∧ b ≠ X.env.locals ∧ (∀ x c, X.env.cells.lookup x = some c → c ≠ b) ∧ ∀ p ∈ X.pn ++ pins, p.1 ≠ b)
    (keep : ∀ b o, b ≠ X.env.locals → b ∉ X.fs → b ∉ ch → s.heap.get? b = some o → H b = none → h'.get? b = some o)
    (slot : ∀ b o, b ≠ X.env.locals → b ∈ X.fs → b ∉ ch → s.heap.get? b = some o → H b = none → ∃ sl, h'.get? b = some { o with slots := sl }) (free : ∀ b o, b ∉ ch → s.heap.get? b = some o → H b = none → H' b = none)
    (there : ∀ b o, b ∉ ch → s.heap.get? b = some o → ∃ o', h'.get? b = some o')
    (tups : ∀ b xs, H b = some (.tup xs) → H' b = some (.tup xs)) (frzs : ∀ b o u, H b = some (.frz o u) → H' b = some (.frz o u)) (tbls : ∀ b ps, H b = some (.tbl ps) → ∃ more, H' b = some (.tbl (ps ++ more)))
    (ns : ∀ m, s.heap.Ns X.env.locals m → h'.Ns X.env.locals m) (hok : HOk X.prog X.w H' h') (hg : AllBare g') :
    Inv X pins σ H' { s with heap := h', gens := g', drawn := d', toks := t' } := by
  have neL : ∀ b o, X.s₀.heap.get? b = some o → b ≠ X.env.locals := fun b o e => Nat.ne_of_lt (Nat.lt_of_lt_of_le (Heap.lt_size e) I.ok.above)
  have neC : ∀ b o, X.s₀.heap.get? b = some o → b ∉ X.ex → b ∉ ch := fun b o e hx hb => by
    rcases (hch b hb).1 with z | z
    · exact hx z
    · exact absurd (Nat.lt_of_lt_of_le (Heap.lt_size e) z) (Nat.lt_irrefl _)
  have cellK : ∀ x c, X.env.cells.lookup x = some c → ∀ v, s.heap.IsCell c v → h'.IsCell c v := fun x c e v ⟨o, ho, hd⟩ => by
    have nch : c ∉ ch := fun z => (hch c z).2.2.1 x c e rfl
    by_cases hc : c ∈ X.fs
    · obtain ⟨sl, q⟩ := slot c o (I.cne x c e) hc nch ho (I.freeC x c e)
      exact ⟨_, q, hd⟩
    · exact ⟨o, keep c o (I.cne x c e) hc nch ho (I.freeC x c e), hd⟩
  refine ⟨I.ok, I.os, hg, ⟨fun b o e n hb hx => ?_, fun b o e n hb hx => ?_, fun b o e n hx => ?_, fun b o e hx => ?_, fun b xs e => tups b xs (I.base.tups b xs e), fun b o xs e => frzs b o xs (I.base.frzs b o xs e), fun b ps e => ?_⟩, ?_, fun x c e => ?_, ?_, fun x c e => ?_, fun p hp => ?_, hok, I.len⟩
  · exact keep b o (neL b o e) hb (neC b o e hx) (I.base.keep b o e n hb hx) (I.base.free b o e n hx)
  · obtain ⟨sl, e1⟩ := I.base.slot b o e n hb hx
    obtain ⟨sl', e2⟩ := slot b _ (neL b o e) hb (neC b o e hx) e1 (I.base.free b o e n hx)
    exact ⟨sl', e2⟩
  · obtain ⟨o', e1⟩ := I.base.there b o e hx
    exact free b o' (neC b o e hx) e1 (I.base.free b o e n hx)
  · obtain ⟨o', e1⟩ := I.base.there b o e hx
    exact there b o' (neC b o e hx) e1
  · obtain ⟨m1, e1⟩ := I.base.tbls b ps e
    obtain ⟨m2, e2⟩ := tbls b _ e1
    exact ⟨m1 ++ m2, by rw [e2, Array.append_assoc]⟩
  · obtain ⟨m, hn, hl⟩ := I.loc
    refine ⟨m, ns m hn, fun i x v e1 e2 e3 => ?_⟩
    obtain ⟨u, r, l⟩ := hl i x v e1 e2 e3
    refine ⟨u, r, ?_⟩
    rcases l with l | ⟨k, c, e, z⟩
    · exact .inl l
    · exact .inr ⟨k, c, e, cellK x c e _ z⟩
  · obtain ⟨v, z⟩ := I.cell x c e
    exact ⟨v, cellK x c e v z⟩
  · obtain ⟨m, ⟨o, _, _, ho, _⟩, _⟩ := I.loc
    exact free _ o (fun z => (hch _ z).2.1 rfl) ho I.free
  · obtain ⟨v, o, ho, hd⟩ := I.cell x c e
    exact free c o (fun z => (hch c z).2.2.1 x c e rfl) ho (I.freeC x c e)
  · obtain ⟨e, n, ne, nf, d⟩ := I.pin p hp
    have nch : p.1 ∉ ch := fun z => (hch p.1 z).2.2.2 p hp rfl
    exact ⟨keep p.1 p.2 ne nf nch e n, free p.1 p.2 nch e n, ne, nf, d⟩
/-- .. where the frame's own object is kept too -/
theorem Inv.un {t' : Nat} (I : Inv X pins σ H s) (u : Un X.fs [] H H' s.heap h') (hok : HOk X.prog X.w H' h') : Inv X pins σ H' { s with heap := h', toks := t' } := by
  obtain ⟨m, ⟨o, es, ep, ho, r⟩, _⟩ := id I.loc
  obtain ⟨sl, hL⟩ := u.any ho I.free (by simp)
  exact I.step (g' := s.gens) (d' := s.drawn) (ch := []) (fun _ z => nomatch z) (fun b o _ hb _ e n => u.keep b o e n hb (by simp)) (fun b o _ hb _ e n => u.slot b o e n hb (by simp)) (fun b o _ e n => u.free b o e n (by simp)) (fun b o _ e => u.there b o e (by simp)) u.tups u.frzs u.tbls (fun m' hm => by
    obtain ⟨o', es', ep', ho', r'⟩ := hm
    rw [ho] at ho'; cases ho'
    exact ⟨_, es', ep', hL, r'⟩) hok I.bare
/-- behind a call (or a comprehension's block): the slots of this frame may have changed too, the records at ch may have turned -/
theorem Inv.call {g' : Array GenState} {t' : Nat} {d' : Drawn} {ch : List Addr} (I : Inv X pins σ H s) (u : Un (frs X.stack) ch H H' s.heap h') (hok : HOk X.prog X.w H' h') (hg : AllBare g')
    (hch : ∀ b ∈ ch, (b ∈ X.ex ∨ X.s₀.heap.objs.size ≤ b) ∧ b ≠ X.env.locals ∧ (∀ x c, X.env.cells.lookup x = some c → c ≠ b) ∧ ∀ p ∈ X.pn ++ pins, p.1 ≠ b) :
    Inv X pins σ H' { s with heap := h', gens := g', drawn := d', toks := t' } := by
  obtain ⟨m, ⟨o, es, ep, ho, r⟩, _⟩ := id I.loc
  obtain ⟨sl, hL⟩ := u.any ho I.free fun z => (hch _ z).2.1 rfl
  exact I.step (ch := ch) hch (fun b o hL hb hc e n => u.keep b o e n (fun z => (List.mem_cons.mp (I.stkSub b z)).elim hL hb) hc) (fun b o _ _ hc e n => u.any e n hc) (fun b o hc e n => u.free b o e n hc) (fun b o hc e => u.there b o e hc) u.tups u.frzs u.tbls (fun m' hm => by
    obtain ⟨o', es', ep', ho', r'⟩ := hm
    rw [ho] at ho'; cases ho'
    exact ⟨_, es', ep', hL, r'⟩) hok hg
/-- an untracked record of ours (an iterator) has turned -/
theorem Inv.turned {t' : Nat} {it : Addr} (I : Inv X pins σ H s) (k : ∀ b o, b ≠ it → s.heap.get? b = some o → h'.get? b = some o) (hn : H it = none) (hL : it ≠ X.env.locals)
    (h1 : it ∈ X.ex ∨ X.s₀.heap.objs.size ≤ it) (h2 : ∀ x c, X.env.cells.lookup x = some c → c ≠ it) (h3 : ∀ p ∈ X.pn ++ pins, p.1 ≠ it) : Inv X pins σ H { s with heap := h', toks := t' } := by
  have nit : ∀ b u, H b = some u → b ≠ it := fun b u e z => by rw [z, hn] at e; cases e
  refine I.step (g' := s.gens) (d' := s.drawn) (ch := [it]) (fun b hb => ?_) (fun b o _ _ hc e _ => k b o (fun z => hc (by simp [z])) e) (fun b o _ _ hc e _ => ⟨o.slots, k b o (fun z => hc (by simp [z])) e⟩) (fun _ _ _ _ n => n)
    (fun b o hc e => ⟨o, k b o (fun z => hc (by simp [z])) e⟩) (fun _ _ e => e) (fun _ _ _ e => e) (fun b ps e => ⟨#[], by rw [e]; simp⟩) (fun m hm => ?_) (fun b u e => ?_) I.bare
  · have e : b = it := by simpa using hb
    subst e
    exact ⟨h1, hL, h2, h3⟩
  · obtain ⟨o, es, ep, ho, r⟩ := hm
    exact ⟨o, es, ep, k _ o (Ne.symm hL) ho, r⟩
  · refine (I.hok b u e).stay (fun c v hc q => k c v ?_ q) (fun _ q => q) fun _ _ q => q
    rcases hc with z | z
    · rw [z]; exact nit b u e
    · exact nit c _ z
theorem Inv.tok (I : Inv X pins σ H s) (t : Nat) : Inv X pins σ H { s with toks := t } := I.un (h' := s.heap) (t' := t) Un.refl I.hok
/-- all objects kept -/
theorem Inv.kept {t' : Nat} (I : Inv X pins σ H s) (k : ∀ b u, s.heap.get? b = some u → h'.get? b = some u) : Inv X pins σ H { s with heap := h', toks := t' } := I.un (Un.kept k) (I.hok.kept k)
/-- a new object laid and tracked -/
theorem Inv.laid {a : Addr} {o : HO} {t' : Nat} (I : Inv X pins σ H s) (k : ∀ b u, s.heap.get? b = some u → h'.get? b = some u) (hp : s.heap.objs.size ≤ a) (new : ObjOk X.prog X.w (upd H a o) h' a o) :
    Inv X pins σ (upd H a o) { s with heap := h', toks := t' } := I.un (Un.laid k hp (I.hok.fresh hp)) (I.hok.laid k hp new)
/-- an object written -/
theorem Inv.write {x e : Addr} {o : HO} {t' : Nat} (I : Inv X pins σ H s) (mu : Mut (H x)) (he : e = x ∨ H e = some (.own x)) (k : ∀ b u, b ≠ e → s.heap.get? b = some u → h'.get? b = some u) (heo : ∃ u, h'.get? e = some u)
    (new : ObjOk X.prog X.w (upd H x o) h' x o) : Inv X pins σ (upd H x o) { s with heap := h', toks := t' } := I.un (Un.write mu he k heo) (I.hok.write mu he k heo new)
theorem Inv.pins_of {pins' : List (Addr × Obj)} (I : Inv X pins σ H s) (h : ∀ p ∈ pins', s.heap.get? p.1 = some p.2 ∧ H p.1 = none ∧ p.1 ≠ X.env.locals ∧ p.1 ∉ X.fs ∧ ∀ v, p.2.data ≠ .cell v) : Inv X pins' σ H s :=
  ⟨I.ok, I.os, I.bare, I.base, I.loc, I.cell, I.free, I.freeC, fun p hp => (List.mem_append.mp hp).elim (fun z => I.pin p (List.mem_append_left _ z)) (h p), I.hok, I.len⟩

theorem nodup_ix {N : List Str} (hN : N.Nodup) {i j : Nat} {x : Str} (a : N[i]? = some x) (b : N[j]? = some x) : i = j := by
  obtain ⟨h1, e1⟩ := List.getElem?_eq_some_iff.mp a
  obtain ⟨h2, e2⟩ := List.getElem?_eq_some_iff.mp b
  exact (List.getElem_inj hN).mp (e1.trans e2.symm)

/-- a name is stored; what changed -/
theorem store_ok2 {M : Model} {A : Around} {E : Value → Shared → Prop} {i : Nat} {x : Str} {v : V} {u : Value} {Q : Unit → Shared → Prop} (I : Inv X pins σ H s) (hN : X.N.Nodup) (hi : X.N[i]? = some x) (hx : Loc X.env.scope x) (r : RelV v u)
    (h : ∀ s', Inv X pins (σ.set i (some v)) H s' → (∃ a, Heap.SameBut a s.heap s'.heap ∧ (a = X.env.locals ∨ X.env.cells.lookup x = some a)) → Q () s') (hf : X.fn x = true ∨ X.env.scope.names.lookup x = some .local := by first | exact .inl rfl | exact .inr rfl | assumption) : wpAny M A (storeName X.env x u) Q E s := by
  obtain ⟨m, hn, hl⟩ := id I.loc
  have hcls : (X.env.scope.kind == .class || (X.env.scope.kind == .module && X.env.locals != X.env.globals)) = false := by rw [I.ok.kind]; rfl
  have hiσ : i < σ.length := by rw [I.len]; exact (List.getElem?_eq_some_iff.mp hi).1
  have cne := I.cne
  have tracked : ∀ {a : Addr} {h' : Heap}, (∃ o, s.heap.get? a = some o ∧ H a = none) → Heap.SameBut a s.heap h' → HOk X.prog X.w H h' := fun {a h'} ha hs b ob e => by
    obtain ⟨_, _, hfree⟩ := ha
    refine (I.hok b ob e).stay (fun c w' hc q => (hs.2 c ?_).trans q) (fun _ q => q) fun _ _ q => q
    rintro rfl
    rcases hc with rfl | hc
    · rw [hfree] at e; cases e
    · rw [hfree] at hc; cases hc
  rcases hx with hk | hk
  · refine wpAny_storeName_local hk hn (fun h' hn' hs => ?_) hcls
    obtain ⟨oL, _, _, hoL, _⟩ := id hn
    refine h _ ⟨I.ok, I.os, I.bare, ⟨fun b o e n hb hx => ?_, fun b o e n hb hx => ?_, I.base.free, fun b o e hx => ?_, I.base.tups, I.base.frzs, I.base.tbls⟩, ⟨_, hn', fun j y v' e1 e2 e3 => ?_⟩, fun y c e => ?_, I.free, I.freeC, fun p hp => ?_, tracked ⟨oL, hoL, I.free⟩ hs, by simpa using I.len⟩ ⟨_, hs, .inl rfl⟩
    · exact (hs.2 b (Nat.ne_of_lt (Nat.lt_of_lt_of_le (Heap.lt_size e) I.ok.above))).trans (I.base.keep b o e n hb hx)
    · obtain ⟨sl, e1⟩ := I.base.slot b o e n hb hx
      exact ⟨sl, (hs.2 b (Nat.ne_of_lt (Nat.lt_of_lt_of_le (Heap.lt_size e) I.ok.above))).trans e1⟩
    · obtain ⟨o', e1⟩ := I.base.there b o e hx
      exact ⟨o', (hs.2 b (Nat.ne_of_lt (Nat.lt_of_lt_of_le (Heap.lt_size e) I.ok.above))).trans e1⟩
    · by_cases hj : j = i
      · subst hj
        rw [hi] at e1; cases e1
        rw [List.getElem?_set_self hiσ] at e2
        cases e2
        exact ⟨u, r, .inl ⟨hk, by simp⟩⟩
      · rw [List.getElem?_set_ne (Ne.symm hj)] at e2
        obtain ⟨u', r', q⟩ := hl j y v' e1 e2 e3
        refine ⟨u', r', ?_⟩
        rcases q with ⟨k, e⟩ | ⟨k, c, e, z⟩
        · refine .inl ⟨k, ?_⟩
          have : y ≠ x := fun e => hj (nodup_ix hN e1 (e ▸ hi))
          simp [this, e]
        · exact .inr ⟨k, c, e, z.sameBut hs (cne y c e)⟩
    · obtain ⟨w', z⟩ := I.cell y c e
      exact ⟨w', z.sameBut hs (cne y c e)⟩
    · obtain ⟨e, n, ne, nf, d⟩ := I.pin p hp
      exact ⟨(hs.2 p.1 ne).trans e, n, ne, nf, d⟩
  · have hfn : X.fn x = true := by
      rcases hf with z | z
      · exact z
      · rw [z] at hk; cases hk
    obtain ⟨c, hc⟩ := I.ok.has x (.inl hk)
    obtain ⟨w', z⟩ := I.cell x c hc
    refine wpAny_storeName_cell I.ok.kind hk hc z (fun h' hc' hs => ?_)
    obtain ⟨oc, hoc, hocd⟩ := id z
    refine h { s with heap := h' } ⟨I.ok, I.os, I.bare, ⟨fun b o e n hb hx => ?_, fun b o e n hb hx => ?_, I.base.free, fun b o e hx => ?_, I.base.tups, I.base.frzs, I.base.tbls⟩, ⟨m, hn.sameBut hs (Ne.symm (cne x c hc)), fun j y v' e1 e2 e3 => ?_⟩, fun y c' e => ?_, I.free, I.freeC, fun p hp => ?_, tracked ⟨oc, hoc, I.freeC x c hc⟩ hs, by simpa using I.len⟩ ⟨c, hs, .inr hc⟩
    · exact (hs.2 b (Nat.ne_of_lt (Nat.lt_of_lt_of_le (Heap.lt_size e) (I.ok.cab x c hfn hc)))).trans (I.base.keep b o e n hb hx)
    · obtain ⟨sl, e1⟩ := I.base.slot b o e n hb hx
      exact ⟨sl, (hs.2 b (Nat.ne_of_lt (Nat.lt_of_lt_of_le (Heap.lt_size e) (I.ok.cab x c hfn hc)))).trans e1⟩
    · obtain ⟨o', e1⟩ := I.base.there b o e hx
      exact ⟨o', (hs.2 b (Nat.ne_of_lt (Nat.lt_of_lt_of_le (Heap.lt_size e) (I.ok.cab x c hfn hc)))).trans e1⟩
    · by_cases hj : j = i
      · subst hj
        rw [hi] at e1; cases e1
        rw [List.getElem?_set_self hiσ] at e2
        cases e2
        exact ⟨u, r, .inr ⟨.inl hk, c, hc, hc'⟩⟩
      · rw [List.getElem?_set_ne (Ne.symm hj)] at e2
        obtain ⟨u', r', q⟩ := hl j y v' e1 e2 e3
        refine ⟨u', r', ?_⟩
        rcases q with q | ⟨k, c', e, z'⟩
        · exact .inl q
        · refine .inr ⟨k, c', e, z'.sameBut hs ?_⟩
          rintro rfl
          exact hj (nodup_ix hN e1 (I.ok.inj _ _ _ e hc ▸ hi))
    · by_cases hcc : c' = c
      · subst hcc; exact ⟨_, hc'⟩
      · obtain ⟨w2, z2⟩ := I.cell y c' e
        exact ⟨w2, z2.sameBut hs hcc⟩
    · obtain ⟨e, n, ne, nf, d⟩ := I.pin p hp
      refine ⟨(hs.2 p.1 ?_).trans e, n, ne, nf, d⟩
      intro q
      rw [q, hoc] at e
      have q' : oc = p.2 := Option.some.inj e
      exact d w' (by rw [← q']; exact hocd)
theorem store_ok {M : Model} {A : Around} {E : Value → Shared → Prop} {i : Nat} {x : Str} {v : V} {u : Value} {Q : Unit → Shared → Prop} (I : Inv X pins σ H s) (hN : X.N.Nodup) (hi : X.N[i]? = some x) (hx : Loc X.env.scope x) (r : RelV v u)
    (h : ∀ s', Inv X pins (σ.set i (some v)) H s' → Q () s') (hf : X.fn x = true ∨ X.env.scope.names.lookup x = some .local := by first | exact .inl rfl | exact .inr rfl | assumption) : wpAny M A (storeName X.env x u) Q E s :=
  store_ok2 I hN hi hx r (fun s' I' _ => h s' I') hf
/-- behind a call or a block, the state as it is -/
theorem Inv.call' {s' : Shared} {ch : List Addr} (I : Inv X pins σ H s) (ho : s'.os = s.os) (u : Un (frs X.stack) ch H H' s.heap s'.heap) (hok : HOk X.prog X.w H' s'.heap) (hg : AllBare s'.gens)
    (hch : ∀ b ∈ ch, (b ∈ X.ex ∨ X.s₀.heap.objs.size ≤ b) ∧ b ≠ X.env.locals ∧ (∀ x c, X.env.cells.lookup x = some c → c ≠ b) ∧ ∀ p ∈ X.pn ++ pins, p.1 ≠ b) : Inv X pins σ H' s' := by
  obtain ⟨h', g', d', t', o'⟩ := s'
  have e : o' = s.os := ho
  subst e
  exact I.call (g' := g') (t' := t') (d' := d') u hok hg hch
end

/-! ### the judgements -/
/-- an exception: its class, its own dict's address (where it has one), the abstract heap behind it -/
noncomputable abbrev XK := Value → Option Addr → Hp → Prop
noncomputable abbrev St := List (Option V)
noncomputable abbrev VK := V → Hp → Prop
/-- an expression's reading; a test's; an argument list's -/
noncomputable abbrev TE := St → Hp → VK → Prop
noncomputable abbrev TT := St → Hp → (Bool → Hp → Prop) → Prop
noncomputable abbrev TA := St → Hp → (List V → Hp → Prop) → Prop
/-- what is wanted behind a statement -/
structure Ends where
  nx : St → Hp → Prop
  rt : VK
  bk : St → Hp → Prop := fun _ _ => False
  ct : St → Hp → Prop := fun _ _ => False
noncomputable abbrev TS := Ends → St → Hp → Prop

noncomputable def EP (X : Cx) (pins : List (Addr × Obj)) (σ : St) (Q : VK) (u : Value) (s' : Shared) : Prop := ∃ v H', Inv X pins σ H' s' ∧ RelV v u ∧ Q v H'
noncomputable def TP (X : Cx) (pins : List (Addr × Obj)) (σ : St) (Q : Bool → Hp → Prop) (b : Bool) (s' : Shared) : Prop := ∃ H', Inv X pins σ H' s' ∧ Q b H'
noncomputable def AP (X : Cx) (pins : List (Addr × Obj)) (σ : St) (Q : List V → Hp → Prop) (us : List Value) (s' : Shared) : Prop := ∃ vs H', Inv X pins σ H' s' ∧ Vals vs us ∧ Q vs H'
noncomputable def SP (X : Cx) (pins : List (Addr × Obj)) (D : Ends) (f : Flow) (s' : Shared) : Prop :=
  match f with
  | .next => ∃ σ' H', Inv X pins σ' H' s' ∧ D.nx σ' H'
  | .brk => ∃ σ' H', Inv X pins σ' H' s' ∧ D.bk σ' H'
  | .cont => ∃ σ' H', Inv X pins σ' H' s' ∧ D.ct σ' H'
  | .ret u => ∃ v σ' H', Inv X pins σ' H' s' ∧ RelV v u ∧ D.rt v H'

noncomputable def PE (X : Cx) (e : Expr) (t : TE) : Prop :=
  ∀ (pins : List (Addr × Obj)) (s : Shared) (σ : St) (H : Hp) (Q : VK), Inv X pins σ H s → t σ H Q → wpAny (model X.prog X.w) X.A (eval e X.env) (EP X pins σ Q) X.xe s
noncomputable def PT (X : Cx) (e : Expr) (t : TT) : Prop :=
  ∀ (pins : List (Addr × Obj)) (s : Shared) (σ : St) (H : Hp) (Q : Bool → Hp → Prop), Inv X pins σ H s → t σ H Q → wpAny (model X.prog X.w) X.A (isTrue e X.env (eval e X.env)) (TP X pins σ Q) X.xe s
/-- a test whatever its 'whole' is (and, or) -/
noncomputable def PW (X : Cx) (e : Expr) (t : TT) : Prop :=
  ∀ (whole : Sem Value) (pins : List (Addr × Obj)) (s : Shared) (σ : St) (H : Hp) (Q : Bool → Hp → Prop), Inv X pins σ H s → t σ H Q → wpAny (model X.prog X.w) X.A (isTrue e X.env whole) (TP X pins σ Q) X.xe s
theorem PW.pt {X : Cx} {e : Expr} {t : TT} (h : PW X e t) : PT X e t := h _
/-- an argument list (no star), from the left -/
noncomputable def PA (X : Cx) (es : List Expr) (t : TA) : Prop :=
  ∀ (pos : Pos) (pins : List (Addr × Obj)) (s : Shared) (σ : St) (H : Hp) (Q : List V → Hp → Prop), Inv X pins σ H s → t σ H Q → wpAny (model X.prog X.w) X.A (spliced (backTo pos (starEach es X.env))) (AP X pins σ Q) X.xe s
noncomputable def PS (X : Cx) (st : Stmt) (t : TS) : Prop :=
  ∀ (pins : List (Addr × Obj)) (s : Shared) (σ : St) (H : Hp) (D : Ends), Inv X pins σ H s → t D σ H → wpAny (model X.prog X.w) X.A (exec st X.env) (SP X pins D) X.xe s
noncomputable def PSs (X : Cx) (st : List Stmt) (t : TS) : Prop :=
  ∀ (pins : List (Addr × Obj)) (s : Shared) (σ : St) (H : Hp) (D : Ends), Inv X pins σ H s → t D σ H → wpAny (model X.prog X.w) X.A (execs st X.env) (SP X pins D) X.xe s
/-- weaken the end -/
theorem thn {α : Type} {t : Sem α} {Q Q' : α → Shared → Prop} {M : Model} {A : Around} {E : Value → Shared → Prop} {s : Shared} (h : wpAny M A t Q E s) (hQ : ∀ a s, Q a s → Q' a s) : wpAny M A t Q' E s := wpAny_mono h hQ fun _ _ x => x
end L2

namespace L2
open PySem PySem.Spec PyProof.Rows
section
variable {X : Cx}


/-! ### names and constants -/
noncomputable def tVar (i : Nat) : TE := fun σ H Q => ∃ v, σ[i]? = some (some v) ∧ Q v H
noncomputable def tC (v : V) : TE := fun _ H Q => Q v H
theorem pe_var {i : Nat} {x : Str} {pos : Pos} (hN : X.N[i]? = some x) (hv : Vis X.env.scope x) (hd : (x == ("__debug__" : Str)) = false := by decide) (hcd : (x == ("__classdict__" : Str)) = false := by decide) : PE X (.Name x pos) (tVar i) := by
  intro pins s σ H Q I h
  obtain ⟨v, e, h⟩ := h
  obtain ⟨m, hn, hl⟩ := I.loc
  obtain ⟨u, r, l⟩ := hl i x v hN e hv
  have fin : EP X pins σ Q u s := ⟨v, H, I, r, h⟩
  rcases l with ⟨hk, hm⟩ | ⟨hk, c, hc, hcell⟩
  · exact wpAny_Name (wpAny_loadName_local I.ok.kind hk hn hm fin) hd
  · rcases hk with hk | hk
    · exact wpAny_Name (wpAny_loadName_cell I.ok.kind hk hc hcell fin) hd
    · exact wpAny_Name (wpAny_loadName_free I.ok.kind hk hc hcell fin hcd) hd
theorem pe_int {i j pos} : PE X (.Constant (.int i) j pos) (tC (.int i)) := fun _ _ _ H _ I h => wpAny_Constant_int ⟨.int i, H, I.tok _, ⟨_, rfl⟩, h⟩
theorem pe_bl {b j pos} : PE X (.Constant (.bool b) j pos) (tC (.bl b)) := fun _ _ _ H _ I h => Constant_bool ⟨.bl b, H, I, rfl, h⟩
theorem pe_non {j pos} : PE X (.Constant .none j pos) (tC .non) := fun _ _ _ H _ I h => Constant_none ⟨.non, H, I, rfl, h⟩
theorem pe_str {x j pos} : PE X (.Constant (.str x) j pos) (tC (.str x)) := fun _ _ _ H _ I h => Calls.Constant_str ⟨.str x, H, I.tok _, ⟨_, rfl⟩, h⟩

/-- a global name of the def -/
noncomputable def Gl (X : Cx) (x : Str) : Prop := X.env.kindOf x = some .globalImplicit
theorem ld_glob {E : Value → Shared → Prop} {pins : List (Addr × Obj)} {s : Shared} {σ : St} {H : Hp} {x : Str} {u : Value} {pos : Pos} {Q : Value → Shared → Prop} (I : Inv X pins σ H s) (hg : Gl X x) (hm : X.mg x = some u) (h : Q u s)
    (hd : (x == ("__debug__" : Str)) = false := by decide) : wpAny (model X.prog X.w) X.A (eval (.Name x pos) X.env) Q E s :=
  Calls.Name_function_global I.ok.kind hg (Calls.loadGlobal_global (by rw [I.ok.glob]; exact I.mod.glob.keeps I.bk) hm h) hd
theorem ld_blt {E : Value → Shared → Prop} {pins : List (Addr × Obj)} {s : Shared} {σ : St} {H : Hp} {x : Str} {u : Value} {pos : Pos} {Q : Value → Shared → Prop} (I : Inv X pins σ H s) (hg : Gl X x) (hm : X.mg x = none) (hv : bootBuiltins x = some u) (h : Q u s)
    (hn : x ≠ "__name__" := by decide) (hd : (x == ("__debug__" : Str)) = false := by decide) : wpAny (model X.prog X.w) X.A (eval (.Name x pos) X.env) Q E s := by
  obtain ⟨mb, h1, h2⟩ := I.mod.blt
  exact Calls.Name_function_global I.ok.kind hg (Calls.loadGlobal_builtin (by rw [I.ok.glob]; exact I.mod.glob.keeps I.bk) hm (by rw [I.ok.blt]; exact h1.keeps I.bk) ((h2 x hn).trans hv) h) hd
theorem pe_bltn {x : Str} {v : V} {u : Value} {pos : Pos} (hg : Gl X x) (hm : X.mg x = none) (hv : bootBuiltins x = some u) (r : RelV v u) (hn : x ≠ "__name__" := by decide) (hd : (x == ("__debug__" : Str)) = false := by decide) : PE X (.Name x pos) (tC v) :=
  fun _ _ _ H _ I h => ld_blt I hg hm hv ⟨v, H, I, r, h⟩ hn hd

/-! ### arithmetic -/
variable {a b : Expr} {ta tb : TE} {pos : Pos}

/-! ### comparisons -/
noncomputable def PC (X : Cx) (op : CmpOp) (a b : Expr) (t : TE) : Prop :=
  ∀ (pins : List (Addr × Obj)) (s : Shared) (σ : St) (H : Hp) (Q : VK), Inv X pins σ H s → t σ H Q →
    wpAny (model X.prog X.w) X.A (eval a X.env) (fun v s₁ => wpAny (model X.prog X.w) X.A (eval b X.env) (fun u s₂ => wpAny (model X.prog X.w) X.A (compareOp op v u) (EP X pins σ Q) X.xe s₂) X.xe s₁) X.xe s
/-- a comparison as a value, as a test -/
noncomputable def tB (t : TE) : TT := fun σ H Q => t σ H fun x H1 => ∃ c, x = .bl c ∧ Q c H1
theorem pt_cmp {op : CmpOp} {t : TE} (h : PC X op a b t) (h1 : behindInMarks op b = false := by first | exact nobehind _ (by decide) (by decide) | rfl) : PT X (.Compare a [op] [b] pos) (tB t) := by
  intro pins s σ H Q I hw
  refine wpAny_isTrue_Compare1 (thn (h pins s σ H _ I hw) fun v s1 h1 => thn h1 fun u s2 h2 => thn h2 fun c s3 ⟨x, H1, I1, r1, q1⟩ => ?_) h1
  obtain ⟨d, rfl, q⟩ := q1
  cases r1
  exact wpAny_truthy_bool ⟨H1, I1, q⟩
/-- an expression whose value is a bool, as a test -/
theorem pt_val {e : Expr} {t : TE} (h : PE X e t) (he : ∀ whole, isTrue e X.env whole = (do let v ← whole; standAt e.pos; holding [v] (truthy v)) := by intro _; rfl) : PT X e (tB t) := by
  intro pins s σ H Q I hw
  refine isTrue_plain (thn (h pins s σ H _ I hw) fun v s1 ⟨x, H1, I1, r1, q1⟩ => ?_) (he _)
  obtain ⟨d, rfl, q⟩ := q1
  cases r1
  exact wpAny_truthy_bool ⟨H1, I1, q⟩

/-! ### and, or, not -/
variable {tA tB' : TT} {rest : List Expr}
noncomputable def tAnd (t u : TT) : TT := fun σ H Q => t σ H fun c H1 => if c = true then u σ H1 Q else Q false H1
noncomputable def tOr (t u : TT) : TT := fun σ H Q => t σ H fun c H1 => if c = true then Q true H1 else u σ H1 Q
noncomputable def tNot (t : TT) : TT := fun σ H Q => t σ H fun c H1 => Q (!c) H1
theorem pw_and1 (ha : PT X a tA) : PW X (.BoolOp .And [a] pos) tA := by
  intro wh pins s σ H Q I h
  refine isTrue_and (thn (ha pins s σ H Q I h) fun c s1 e => ?_)
  cases c with
  | true => exact isTrue_and_nil e
  | false => exact e
theorem pw_or1 (ha : PT X a tA) : PW X (.BoolOp .Or [a] pos) tA := by
  intro wh pins s σ H Q I h
  refine isTrue_or (thn (ha pins s σ H Q I h) fun c s1 e => ?_)
  cases c with
  | false => exact isTrue_or_nil e
  | true => exact e
theorem pw_and (ha : PT X a tA) (hb : PW X (.BoolOp .And (b :: rest) pos) tB') : PW X (.BoolOp .And (a :: b :: rest) pos) (tAnd tA tB') := by
  intro wh pins s σ H Q I h
  refine isTrue_and (thn (ha pins s σ H _ I h) fun c s1 ⟨H1, I1, q1⟩ => ?_)
  cases c with
  | true => exact hb wh pins s1 σ H1 Q I1 q1
  | false => exact ⟨H1, I1, q1⟩
theorem pw_or (ha : PT X a tA) (hb : PW X (.BoolOp .Or (b :: rest) pos) tB') : PW X (.BoolOp .Or (a :: b :: rest) pos) (tOr tA tB') := by
  intro wh pins s σ H Q I h
  refine isTrue_or (thn (ha pins s σ H _ I h) fun c s1 ⟨H1, I1, q1⟩ => ?_)
  cases c with
  | true => exact ⟨H1, I1, q1⟩
  | false => exact hb wh pins s1 σ H1 Q I1 q1
theorem pt_not (ha : PT X a tA) : PT X (.UnaryOp .Not a pos) (tNot tA) := by
  intro pins s σ H Q I h
  exact isTrue_not (ha pins s σ H (fun c H1 => Q (!c) H1) I h)
/-- .. as values (bools) -/
noncomputable def tAndV (ta tb : TE) : TE := fun σ H Q => ta σ H fun x H1 => ∃ c, x = .bl c ∧ if c = true then tb σ H1 Q else Q (.bl false) H1
noncomputable def tNotV (ta : TE) : TE := fun σ H Q => ta σ H fun x H1 => ∃ c, x = .bl c ∧ Q (.bl (!c)) H1
theorem pe_one {op} {t : TE} (h : PE X a t) : PE X (.BoolOp op [a] pos) t := fun pins s σ H Q I hw => BoolOp_one (h pins s σ H Q I hw)
theorem pe_and (ha : PE X a ta) (hb : PE X (.BoolOp .And (b :: rest) pos) tb) : PE X (.BoolOp .And (a :: b :: rest) pos) (tAndV ta tb) := by
  intro pins s σ H Q I h
  refine BoolOp_and (thn (ha pins s σ H _ I h) fun v s1 ⟨x, H1, I1, r1, q1⟩ => ?_)
  obtain ⟨c, rfl, q1⟩ := q1
  cases r1
  refine wpAny_truthy_bool ?_
  cases c with
  | true => exact hb pins s1 σ H1 Q I1 q1
  | false => exact ⟨.bl false, H1, I1, rfl, q1⟩
theorem pe_not (ha : PE X a ta) : PE X (.UnaryOp .Not a pos) (tNotV ta) := by
  intro pins s σ H Q I h
  refine UnaryOp_ (thn (ha pins s σ H _ I h) fun v s1 ⟨x, H1, I1, r1, q1⟩ => ?_)
  obtain ⟨c, rfl, q1⟩ := q1
  cases r1
  exact not_of (wpAny_truthy_bool ⟨.bl (!c), H1, I1, rfl, q1⟩)
end
end L2

namespace L2
open PySem PySem.Spec PyProof.Rows

/-! ### a list, a tuple that is read: tracked, frozen, or an object of the module -/
noncomputable def SqL (K : PySem.W.Frag) (H : Hp) (a : Addr) (xs : List V) : Prop :=
  Rd H a (.lst xs) ∨
    ∃ (o : Obj) (its : Array Value) (n : Nat), K.lookup a = some o ∧ o.cls = .type "list" ∧ o.dict = none ∧ o.data = .seq its n ∧ its.size ≤ sizeLine ∧ Vals xs its.toList
noncomputable def SqT (K : PySem.W.Frag) (H : Hp) (a : Addr) (xs : List V) : Prop :=
  Rd H a (.tup xs) ∨
    ∃ (o : Obj) (its : Array Value) (n : Nat), K.lookup a = some o ∧ o.cls = .type "tuple" ∧ o.data = .seq its n ∧ its.size ≤ sizeLine ∧ Vals xs its.toList
noncomputable def absV : Value → Option V
  | .none => some .non
  | .bool b => some (.bl b)
  | .int i _ => some (.int i)
  | .str x _ => some (.str x)
  | .bytes b _ => some (.byt b)
  | .float b _ => some (.flt b)
  | .ref a => some (.ref a)
  | .type n => some (.ty n)
  | _ => none
theorem RelV.abs {x : V} {u : Value} (r : RelV x u) : absV u = some x := by
  cases x with
  | non => cases r; rfl
  | bl _ => cases r; rfl
  | int _ => obtain ⟨t, rfl⟩ := r; rfl
  | str _ => obtain ⟨t, rfl⟩ := r; rfl
  | byt _ => obtain ⟨t, rfl⟩ := r; rfl
  | flt _ => obtain ⟨t, rfl⟩ := r; rfl
  | ref _ => cases r; rfl
  | ty _ => cases r; rfl
theorem RelV.inj {x y : V} {u : Value} (r : RelV x u) (q : RelV y u) : x = y := Option.some.inj (r.abs.symm.trans q.abs)
theorem Vals.inj : ∀ {xs ys : List V} {us : List Value}, Vals xs us → Vals ys us → xs = ys
  | _, _, _, .nil, .nil => rfl
  | _, _, _, .cons r t, .cons r' t' => by rw [r.inj r', Vals.inj t t']
section
variable {X : Cx} {pins : List (Addr × Obj)} {σ : St} {H : Hp} {s : Shared} {a : Addr} {xs ys : List V}
theorem SqL.of {K : PySem.W.Frag} (h : H a = some (.lst xs)) : SqL K H a xs := .inl (.inl h)
theorem SqT.of {K : PySem.W.Frag} (h : H a = some (.tup xs)) : SqT K H a xs := .inl (.inl h)
theorem Inv.list (I : Inv X pins σ H s) (h : SqL X.K H a xs) : ∃ its : List Value, Vals xs its ∧ PlainL s.heap a its.toArray ∧ xs.length ≤ sizeLine := by
  rcases h with h | ⟨o, its, n, hk, hc, hd, hs, hz, r⟩
  · obtain ⟨z, its, n, r, e⟩ := h.ok I.hok
    exact ⟨its, r, ⟨_, n, e, rfl, rfl, rfl⟩, z⟩
  · refine ⟨its.toList, r, ⟨o, n, I.kIn a o hk, hc, hd, by simpa using hs⟩, ?_⟩
    have e := r.length
    simp only [Array.length_toList] at e
    omega
theorem Inv.tuple (I : Inv X pins σ H s) (h : SqT X.K H a xs) : ∃ its : List Value, Vals xs its ∧ IsTup s.heap a its.toArray ∧ xs.length ≤ sizeLine := by
  rcases h with h | ⟨o, its, n, hk, hc, hs, hz, r⟩
  · obtain ⟨z, its, r, p⟩ := h.ok I.hok
    exact ⟨its, r, p, z⟩
  · refine ⟨its.toList, r, ⟨o, I.kIn a o hk, hc, n, by simpa using hs⟩, ?_⟩
    have e := r.length
    simp only [Array.length_toList] at e
    omega
theorem Inv.list_inj (I : Inv X pins σ H s) (h : SqL X.K H a xs) (h' : SqL X.K H a ys) : xs = ys := by
  obtain ⟨its, r, ⟨o, n, e, _, _, d⟩, _⟩ := I.list h
  obtain ⟨its', r', ⟨o', n', e', _, _, d'⟩, _⟩ := I.list h'
  rw [e] at e'; cases e'
  rw [d] at d'
  injection d' with d1 _
  have : its = its' := by simpa using congrArg Array.toList d1
  subst this
  exact r.inj r'
theorem Inv.tuple_inj (I : Inv X pins σ H s) (h : SqT X.K H a xs) (h' : SqT X.K H a ys) : xs = ys := by
  obtain ⟨its, r, ⟨o, e, _, n, d⟩, _⟩ := I.tuple h
  obtain ⟨its', r', ⟨o', e', _, n', d'⟩, _⟩ := I.tuple h'
  rw [e] at e'; cases e'
  rw [d] at d'
  injection d' with d1 _
  have : its = its' := by simpa using congrArg Array.toList d1
  subst this
  exact r.inj r'
end

/-! ### another wish about exceptions -/
noncomputable abbrev Cx.wish (X : Cx) (E : Value → Shared → Prop) : Cx := { X with xe := E }
/-- no exception leaves -/
noncomputable abbrev Cx.nox (X : Cx) : Cx := X.wish fun _ _ => False
theorem Cx.Ok.wish {X : Cx} (ok : X.Ok) (E : Value → Shared → Prop) : (X.wish E).Ok :=
  ⟨ok.mod, ok.kind, ok.glob, ok.blt, ok.above, ok.inj, ok.has, ok.cab, ok.hd, ok.frames, ok.stk, ok.exf, ok.bs, ok.bsz, ok.noex, ok.exfs, ok.funs, ok.frf⟩
theorem Cx.Ok.unwish {X : Cx} {E : Value → Shared → Prop} (ok : (X.wish E).Ok) : X.Ok :=
  ⟨ok.mod, ok.kind, ok.glob, ok.blt, ok.above, ok.inj, ok.has, ok.cab, ok.hd, ok.frames, ok.stk, ok.exf, ok.bs, ok.bsz, ok.noex, ok.exfs, ok.funs, ok.frf⟩
section
variable {X : Cx} {pins : List (Addr × Obj)} {σ : St} {H : Hp} {s : Shared} {E : Value → Shared → Prop}
theorem Inv.wish (I : Inv X pins σ H s) (E : Value → Shared → Prop) : Inv (X.wish E) pins σ H s := ⟨I.ok.wish E, I.os, I.bare, I.base, I.loc, I.cell, I.free, I.freeC, I.pin, I.hok, I.len⟩
theorem Inv.unwish (I : Inv (X.wish E) pins σ H s) : Inv X pins σ H s := ⟨I.ok.unwish, I.os, I.bare, I.base, I.loc, I.cell, I.free, I.freeC, I.pin, I.hok, I.len⟩
theorem SP.unwish {D : Ends} {f : Flow} {s' : Shared} (h : SP (X.wish E) pins D f s') : SP X pins D f s' := by
  cases f with
  | next => obtain ⟨σ', H', I, q⟩ := h; exact ⟨σ', H', I.unwish, q⟩
  | brk => obtain ⟨σ', H', I, q⟩ := h; exact ⟨σ', H', I.unwish, q⟩
  | cont => obtain ⟨σ', H', I, q⟩ := h; exact ⟨σ', H', I.unwish, q⟩
  | ret u => obtain ⟨v, σ', H', I, r, q⟩ := h; exact ⟨v, σ', H', I.unwish, r, q⟩
theorem PSs.nox {st : List Stmt} {t : TS} (h : PSs X.nox st t) : PSs X st t := fun pins s σ H D I hw =>
  wpAny_mono (h pins s σ H D (I.wish _) hw) (fun _ _ q => q.unwish) fun _ _ z => False.elim z
end

/-! ### blocks and small statements -/
section
variable {X : Cx} {st : Stmt} {rest : List Stmt} {t u : TS} {e : Expr} {te : TE} {pos : Pos}
noncomputable def tNext : TS := fun D σ H => D.nx σ H
noncomputable def tSeq (t u : TS) : TS := fun D σ H => t { D with nx := u D } σ H
theorem pss_nil : PSs X [] tNext := fun _ _ σ H _ I h => wpAny_execs_nil ⟨σ, H, I, h⟩
theorem pss_cons (h1 : PS X st t) (h2 : PSs X rest u) : PSs X (st :: rest) (tSeq t u) := by
  intro pins s σ H D I h
  refine wpAny_execs_cons (thn (h1 pins s σ H { D with nx := u D } I h) fun f s1 q => ?_)
  cases f with
  | next =>
    obtain ⟨σ', H', I', q⟩ := q
    exact h2 pins s1 σ' H' D I' q
  | ret v => exact q
  | brk => exact q
  | cont => exact q
theorem pss_one (h1 : PS X st t) : PSs X [st] t := by
  intro pins s σ H D I h
  refine wpAny_execs_cons (thn (h1 pins s σ H D I h) fun f s1 q => ?_)
  cases f with
  | next => exact wpAny_execs_nil q
  | ret v => exact q
  | brk => exact q
  | cont => exact q
/-- in a def's body nothing is shown -/
theorem Inv.quiet {pins : List (Addr × Obj)} {σ : St} {H : Hp} {s : Shared} (I : Inv X pins σ H s) : interactive X.env = false := by simp [interactive, I.ok.kind]
/-- an expression whose value is dropped -/
noncomputable def tDrop (te : TE) : TS := fun D σ H => te σ H fun _ H1 => D.nx σ H1
theorem ps_expr (he : PE X e te) (hs : swapsWith e none pos.line X.env = pure false := by rfl) : PS X (.Expr e pos) (tDrop te) := by
  intro pins s σ H D I h
  exact wpAny_Expr_any (thn (he pins s σ H _ I h) fun v s1 ⟨x, H1, I1, r1, q1⟩ => ⟨σ, H1, I1, q1⟩) I.quiet hs
noncomputable def tRet (te : TE) : TS := fun D σ H => te σ H D.rt
theorem ps_ret (he : PE X e te) : PS X (.Return (some e) pos) (tRet te) := by
  intro pins s σ H D I h
  exact wpAny_Return_some (thn (he pins s σ H _ I h) fun v s1 ⟨x, H1, I1, r1, q1⟩ => ⟨x, σ, H1, I1, r1, q1⟩)
noncomputable def tIfS (c : TT) (t u : TS) : TS := fun D σ H => c σ H fun b H1 => if b = true then t D σ H1 else u D σ H1
theorem ps_if {c : Expr} {a b : List Stmt} {tc : TT} (hc : PT X c tc) (ha : PSs X a t) (hb : PSs X b u) : PS X (.If c a b pos) (tIfS tc t u) := by
  intro pins s σ H D I h
  refine wpAny_If (thn (hc pins s σ H _ I h) fun d s1 ⟨H1, I1, q1⟩ => ?_)
  cases d with
  | true => exact ha pins s1 σ H1 D I1 q1
  | false => exact hb pins s1 σ H1 D I1 q1
end

/-! ### targets -/
noncomputable abbrev TG := V → St → Hp → (St → Hp → Prop) → Prop
noncomputable abbrev TGs := List V → St → Hp → (St → Hp → Prop) → Prop
noncomputable def PG (X : Cx) (target : Expr) (t : TG) : Prop :=
  ∀ (pins : List (Addr × Obj)) (s : Shared) (σ : St) (H : Hp) (v : V) (u : Value) (Q : St → Hp → Prop), Inv X pins σ H s → RelV v u → t v σ H Q →
    wpAny (model X.prog X.w) X.A (assign target X.env u) (fun _ s' => ∃ σ' H', Inv X pins σ' H' s' ∧ Q σ' H') X.xe s
/-- several targets, one after another -/
noncomputable def PGs (X : Cx) (ts : List Expr) (t : TGs) : Prop :=
  ∀ (pins : List (Addr × Obj)) (s : Shared) (σ : St) (H : Hp) (vs : List V) (us : List Value) (Q : St → Hp → Prop), Inv X pins σ H s → Vals vs us → t vs σ H Q →
    wpAny (model X.prog X.w) X.A (assignInOrder ((assignEach ts X.env).map (·.2)) us) (fun _ s' => ∃ σ' H', Inv X pins σ' H' s' ∧ Q σ' H') X.xe s
section
variable {X : Cx} {pos : Pos}
noncomputable def gName (i : Nat) : TG := fun v σ H Q => Q (σ.set i (some v)) H
theorem pg_name {i : Nat} {x : Str} (hN : X.N.Nodup) (hi : X.N[i]? = some x) (hx : Loc X.env.scope x) (hf : X.fn x = true ∨ X.env.scope.names.lookup x = some .local := by first | exact .inl rfl | exact .inr rfl | assumption) : PG X (.Name x pos) (gName i) := by
  intro pins s σ H v u Q I r h
  exact wpAny_assign_Name (store_ok I hN hi hx r (fun s' I' => ⟨_, H, I', h⟩) hf)
noncomputable def gNil : TGs := fun vs σ H Q => vs = [] ∧ Q σ H
noncomputable def gCons (t : TG) (u : TGs) : TGs := fun vs σ H Q => ∃ v r, vs = v :: r ∧ t v σ H fun σ' H' => u r σ' H' Q
theorem pgs_nil : PGs X [] gNil := by
  intro pins s σ H vs us Q I r h
  obtain ⟨e, h⟩ := h
  subst e
  cases r
  exact assignInOrder_nil ⟨σ, H, I, h⟩
theorem pgs_cons {e : Expr} {es : List Expr} {t : TG} {u : TGs} (h1 : PG X e t) (h2 : PGs X es u)
    (hs : (assignEach (e :: es) X.env).map (·.2) = assign e X.env :: (assignEach es X.env).map (·.2) := by rfl) : PGs X (e :: es) (gCons t u) := by
  intro pins s σ H vs us Q I r h
  obtain ⟨v, vr, e1, h⟩ := h
  subst e1
  cases r with
  | cons r rr =>
    rw [hs]
    refine assignInOrder_cons (thn (h1 pins s σ H _ _ _ I r h) fun _ s1 ⟨σ1, H1, I1, q1⟩ => ?_)
    exact h2 pins s1 σ1 H1 _ _ Q I1 rr q1
/-- (a, b, ..) = a tuple of that length -/
noncomputable def gTup (K : PySem.W.Frag) (n : Nat) (t : TGs) : TG := fun v σ H Q => ∃ a xs, v = .ref a ∧ SqT K H a xs ∧ xs.length = n ∧ t xs σ H Q
theorem pg_tup {es : List Expr} {k : Nat} {t : TGs} {n : Nat} (hc : X.calm = true) (h : PGs X es t)
    (hn : (assignEach es X.env).length = n := by rfl) (hst : (assignEach es X.env).findIdx? (·.1) = none := by rfl) : PG X (.Tuple es k pos) (gTup X.K n t) := by
  intro pins s σ H v u Q I r hw
  obtain ⟨a, xs, e1, hq, hl, hw⟩ := hw
  subst e1
  cases r
  obtain ⟨its, rv, ht, hz⟩ := I.tuple hq
  refine assign_Tuple_tuple (I.ok.hd hc) ht (by simp [hn, ← hl, rv.length]) hst fun h' hx => ?_
  have I1 : Inv X pins σ H { s with heap := h' } := I.kept (t' := s.toks) fun b o e => hx b o (Nat.ne_of_lt (Heap.lt_size e)) e
  exact h pins _ σ H xs _ Q I1 (by simpa using rv) hw
/-- target = value -/
noncomputable def tAsg (te : TE) (g : TG) : TS := fun D σ H => te σ H fun x H1 => g x σ H1 D.nx
theorem ps_asg {tg e : Expr} {te : TE} {g : TG} (he : PE X e te) (hg : PG X tg g) (hs : swapsWithSole [tg] e pos.line X.env = pure false := by rfl) (hw : swappedStores [tg] e X.env = pure none := by rfl)
    (h1 : (assignEach [tg] X.env).map (·.2) = [assign tg X.env] := by rfl) : PS X (.Assign [tg] e pos) (tAsg te g) := by
  intro pins s σ H D I h
  refine wpAny_Assign_stores (thn (he pins s σ H _ I h) fun v s1 ⟨x, H1, I1, r1, q1⟩ => ?_) hs hw
  rw [h1]
  exact thn (hg pins s1 σ H1 x v _ I1 r1 q1) fun _ s2 q => q
/-- name = value -/
theorem ps_set {i : Nat} {x : Str} {e : Expr} {te : TE} {pos' : Pos} (hN : X.N.Nodup) (hi : X.N[i]? = some x) (hx : Loc X.env.scope x) (he : PE X e te) (hs : swapsWith e (some (.Name x pos')) pos.line X.env = pure false := by rfl) (hf : X.fn x = true ∨ X.env.scope.names.lookup x = some .local := by first | exact .inl rfl | exact .inr rfl | assumption) :
    PS X (.Assign [.Name x pos'] e pos) (tAsg te (gName i)) := by
  intro pins s σ H D I h
  refine wpAny_Assign_Name (thn (he pins s σ H _ I h) fun v s1 ⟨y, H1, I1, r1, q1⟩ => ?_) hs
  exact store_ok I1 hN hi hx r1 (fun s2 I2 => ⟨_, H1, I2, q1⟩) hf
end

/-! ### while -/
section
variable {X : Cx} {pos : Pos}
end

/-! ### what a loop or a comprehension walks -/
/-- at turn i: it yields x (the heap may grow), or it stops -/
structure It where
  go : Nat → Hp → Prop
  yld : Nat → Hp → V → Hp → Prop
  stop : Nat → Hp → Prop
/-- the iterator's own objects may turn: they are not the frame's, not pinned, younger than the entry (or a comprehension's own) -/
noncomputable def FpOk (X : Cx) (pins : List (Addr × Obj)) (H : Hp) (b : Addr) : Prop :=
  H b = none ∧ b ≠ X.env.locals ∧ b ∉ X.fs ∧ (b ∈ X.ex ∨ X.s₀.heap.objs.size ≤ b) ∧ (∀ x c, X.env.cells.lookup x = some c → c ≠ b) ∧ ∀ p ∈ X.pn ++ pins, p.1 ≠ b
theorem Inv.fpOk {X : Cx} {pins : List (Addr × Obj)} {σ : St} {H H' : Hp} {s : Shared} {b : Addr} (I : Inv X pins σ H s) (hb : s.heap.objs.size ≤ b) (hn : H' b = none) : FpOk X pins H' b := by
  refine ⟨hn, Nat.ne_of_gt (Nat.lt_of_lt_of_le I.lt hb), I.nofs hb, .inr (Nat.le_trans I.sz hb), fun x c e z => ?_, fun p hp z => ?_⟩
  · obtain ⟨v, q⟩ := I.cell x c e
    exact absurd (Nat.lt_of_lt_of_le q.lt (by rw [z]; exact hb)) (Nat.lt_irrefl _)
  · exact absurd (Nat.lt_of_lt_of_le (Heap.lt_size (I.pin p hp).1) (by rw [z]; exact hb)) (Nat.lt_irrefl _)
structure Turn (P : Program) (w : World) (K : PySem.W.Frag) (tg : Expr) (J : It) (fp : List Addr) (it : Addr) (tn : Nat → Heap → Prop) : Prop where
  mem : it ∈ fp
  obj : ∀ i h, tn i h → ∀ b ∈ fp, ∃ o, h.get? b = some o ∧ ∀ v, o.data ≠ .cell v
  keep : ∀ i h h', tn i h → (∀ b ∈ fp, ∀ o, h.get? b = some o → h'.get? b = some o) → tn i h'
  item : ∀ (X : Cx), X.prog = P → X.w = w → X.K = K → X.calm = true → ∀ (i : Nat) (pins : List (Addr × Obj)) (s : Shared) (σ : St) (H : Hp) (E : Value → Shared → Prop), Inv X pins σ H s → (∀ b ∈ fp, FpOk X pins H b) → tn i s.heap → J.go i H →
    wpAny (model P w) X.A (pyNext (.ref it)) (fun r s1 => ∃ u, r = some u ∧
      wpAny (model P w) X.A (letOwnedTupleGo tg (.ref it) u) (fun _ s2 => ∃ x H', Inv X pins σ H' s2 ∧ RelV x u ∧ J.yld i H x H' ∧ tn (i + 1) s2.heap ∧ ∀ b ∈ fp, H' b = none) E s1) E s
  done : ∀ (X : Cx), X.prog = P → X.w = w → X.K = K → X.calm = true → ∀ (i : Nat) (pins : List (Addr × Obj)) (s : Shared) (σ : St) (H : Hp) (E : Value → Shared → Prop), Inv X pins σ H s → (∀ b ∈ fp, FpOk X pins H b) → tn i s.heap → J.stop i H →
    wpAny (model P w) X.A (pyNext (.ref it)) (fun r s1 => r = none ∧ Inv X pins σ H s1) E s
  self : ∀ (A : Around) (i : Nat) (s : Shared) (Q : Value → Shared → Prop) (E : Value → Shared → Prop), tn i s.heap → Q (.ref it) s → wpAny (model P w) A (pyIter (.ref it)) Q E s
noncomputable abbrev TI := St → Hp → (It → Hp → Prop) → Prop
/-- an iterator has come -/
noncomputable def PIE (X : Cx) (pins : List (Addr × Obj)) (σ : St) (tg : Expr) (R : It → Hp → Prop) (itv : Value) (s2 : Shared) : Prop :=
  ∃ (it : Addr) (fp : List Addr) (tn : Nat → Heap → Prop) (J : It) (H' : Hp), itv = .ref it ∧ Inv X pins σ H' s2 ∧ Turn X.prog X.w X.K tg J fp it tn ∧ tn 0 s2.heap ∧ (∀ b ∈ fp, FpOk X pins H' b) ∧ R J H'
noncomputable def PI (X : Cx) (tg iter : Expr) (wi : TI) : Prop :=
  ∀ (pins : List (Addr × Obj)) (s : Shared) (σ : St) (H : Hp) (R : It → Hp → Prop), Inv X pins σ H s → wi σ H R →
    wpAny (model X.prog X.w) X.A (eval iter X.env) (fun v s1 => wpAny (model X.prog X.w) X.A (pyIter v) (PIE X pins σ tg R) X.xe s1) X.xe s

/-- the step ahead of the store is nothing for an iterator that keeps no tuple -/
theorem go_of {M : Model} {A : Around} {E : Value → Shared → Prop} {s : Shared} {tg : Expr} {it : Addr} {u : Value} {o : Obj} {n : String} {vs : Array Value} {Q : Unit → Shared → Prop} (ho : s.heap.get? it = some o) (hc : o.cls = .type n) (hd : o.data = .fields vs)
    (hn : ["enumerate", "zip", "dict_itemiterator", "dict_reverseitemiterator", "odict_iterator", "itertools.zip_longest", "itertools.pairwise"].contains n = false) (hQ : Q () s) : wpAny M A (letOwnedTupleGo tg (.ref it) u) Q E s := by
  unfold letOwnedTupleGo
  cases tg <;> first
    | exact wpAny_pure hQ
    | (cases u <;> first
        | exact wpAny_pure hQ
        | (refine wpAny_bind (wpAny_load ho ?_)
           rw [hc, hd]
           show wpAny M A (if (["enumerate", "zip", "dict_itemiterator", "dict_reverseitemiterator", "odict_iterator", "itertools.zip_longest", "itertools.pairwise"].contains n && vs[0]? == some (rawInt _)) = true then _ else _) Q E s
           rw [if_neg (by intro h; rw [hn, Bool.false_and] at h; cases h)]
           exact wpAny_pure hQ))

/-- the list at a, as it stands at each turn (a loop may append to it) -/
noncomputable def Itl (K : PySem.W.Frag) (a : Addr) : It :=
  ⟨fun i H => ∃ xs x, SqL K H a xs ∧ xs[i]? = some x, fun i H x H' => H' = H ∧ ∀ xs, SqL K H a xs → xs[i]? = some x, fun i H => ∃ xs, SqL K H a xs ∧ xs.length ≤ i⟩
noncomputable def Itt (K : PySem.W.Frag) (a : Addr) : It :=
  ⟨fun i H => ∃ xs x, SqT K H a xs ∧ xs[i]? = some x, fun i H x H' => H' = H ∧ ∀ xs, SqT K H a xs → xs[i]? = some x, fun i H => ∃ xs, SqT K H a xs ∧ xs.length ≤ i⟩
/-- lo, lo + 1, .. (n of them) -/
noncomputable def Itr (lo : Int) (n : Nat) : It := ⟨fun i _ => i < n, fun i H x H' => H' = H ∧ x = .int (lo + i), fun i _ => n ≤ i⟩
theorem turn_list {P : Program} {w : World} {K : PySem.W.Frag} {tg : Expr} (a it : Addr) : Turn P w K tg (Itl K a) [it] it (fun i h => h.IsListIter it a i) where
  mem := by simp
  obj := fun i h st b hb => by
    have e : b = it := by simpa using hb
    subst e
    obtain ⟨o, e, c, d⟩ := st
    exact ⟨o, e, fun v z => by rw [d] at z; cases z⟩
  keep := fun i h h' st k => st.at fun o e => k it (by simp) o e
  item := by
    intro X hP hw hK hc i pins s σ H E I hf st hg
    subst hP hw hK
    obtain ⟨xs, x, hq, hx⟩ := hg
    obtain ⟨its, rv, p, hz⟩ := I.list hq
    obtain ⟨u, hu, ru⟩ := rv.get hx
    obtain ⟨f0, f1, f2, f3, f4, f5⟩ := hf it (by simp)
    refine wpAny_pyNext_list_item st p.isList (x := u) (by simpa using hu) fun h' st' sb => ?_
    have I1 : Inv X pins σ H { s with heap := h' } := I.turned (t' := s.toks) (fun b o hb e => (sb.2 b hb).trans e) f0 f1 f3 f4 f5
    obtain ⟨o, e, c, d⟩ := id st'
    exact ⟨u, rfl, go_of (s := { s with heap := h' }) e c d (by decide) ⟨x, H, I1, ru, ⟨rfl, fun ys hy => by rw [I.list_inj hy hq]; exact hx⟩, st', fun b hb => (hf b hb).1⟩⟩
  done := by
    intro X hP hw hK hc i pins s σ H E I hf st hg
    subst hP hw hK
    obtain ⟨xs, hq, hx⟩ := hg
    obtain ⟨its, rv, p, hz⟩ := I.list hq
    obtain ⟨f0, f1, f2, f3, f4, f5⟩ := hf it (by simp)
    have hl := rv.length
    exact wpAny_pyNext_list_end (I.ok.hd hc) st p.isList (by simp; omega) fun h' eb => ⟨rfl, I.turned (t' := s.toks) (fun b o hb e => eb b o hb e) f0 f1 f3 f4 f5⟩
  self := fun _ _ _ _ _ st h => wpAny_pyIter_listiter st h
theorem turn_tuple {P : Program} {w : World} {K : PySem.W.Frag} {tg : Expr} (a it : Addr) : Turn P w K tg (Itt K a) [it] it (fun i h => h.IsTupleIter it a i) where
  mem := by simp
  obj := fun i h st b hb => by
    have e : b = it := by simpa using hb
    subst e
    obtain ⟨o, e, c, d⟩ := st
    exact ⟨o, e, fun v z => by rw [d] at z; cases z⟩
  keep := fun i h h' st k => st.at fun o e => k it (by simp) o e
  item := by
    intro X hP hw hK hc i pins s σ H E I hf st hg
    subst hP hw hK
    obtain ⟨xs, x, hq, hx⟩ := hg
    obtain ⟨its, rv, p, hz⟩ := I.tuple hq
    obtain ⟨u, hu, ru⟩ := rv.get hx
    obtain ⟨f0, f1, f2, f3, f4, f5⟩ := hf it (by simp)
    refine wpAny_pyNext_tuple_item st (show s.heap.IsTuple a its.toArray from p) (x := u) (by simpa using hu) fun h' st' sb => ?_
    have I1 : Inv X pins σ H { s with heap := h' } := I.turned (t' := s.toks) (fun b o hb e => (sb.2 b hb).trans e) f0 f1 f3 f4 f5
    obtain ⟨o, e, c, d⟩ := id st'
    exact ⟨u, rfl, go_of (s := { s with heap := h' }) e c d (by decide) ⟨x, H, I1, ru, ⟨rfl, fun ys hy => by rw [I.tuple_inj hy hq]; exact hx⟩, st', fun b hb => (hf b hb).1⟩⟩
  done := by
    intro X hP hw hK hc i pins s σ H E I hf st hg
    subst hP hw hK
    obtain ⟨xs, hq, hx⟩ := hg
    obtain ⟨its, rv, p, hz⟩ := I.tuple hq
    obtain ⟨f0, f1, f2, f3, f4, f5⟩ := hf it (by simp)
    have hl := rv.length
    exact wpAny_pyNext_tuple_end (I.ok.hd hc) st (show s.heap.IsTuple a its.toArray from p) (by simp; omega) fun h' eb => ⟨rfl, I.turned (t' := s.toks) (fun b o hb e => eb b o hb e) f0 f1 f3 f4 f5⟩
  self := fun _ _ _ _ _ st h => wpAny_pyIter_tupleiter st h
theorem turn_range {P : Program} {w : World} {K : PySem.W.Frag} {tg : Expr} (it : Addr) (lo : Int) (n : Nat) : Turn P w K tg (Itr lo n) [it] it (fun i h => IsRangeIter h it (lo + (i : Nat) * 1) ((n : Int) - (i : Nat)) 1) where
  mem := by simp
  obj := fun i h st b hb => by
    have e : b = it := by simpa using hb
    subst e
    exact ⟨_, st, fun v z => by
      have z' : Data.fields _ = Data.cell v := z
      cases z'⟩
  keep := fun i h h' st k => k it (by simp) _ st
  item := by
    intro X hP hw hK hc i pins s σ H E I hf st hg
    subst hP hw hK
    obtain ⟨f0, f1, f2, f3, f4, f5⟩ := hf it (by simp)
    have W := Walks.range (prog := X.prog) (w := X.w) (I.ok.hd hc) it lo 1 n
    refine W.item i s _ _ hg st fun v h' tk hv st' kk => ?_
    obtain ⟨t, rfl⟩ := hv
    have I1 : Inv X pins σ H { s with heap := h', toks := tk } := I.turned (fun b o hb e => kk b o (by simpa using hb) e) f0 f1 f3 f4 f5
    refine ⟨_, rfl, go_of (s := { s with heap := h', toks := tk }) (n := "range_iterator") st' rfl rfl (by decide) ⟨.int (lo + i), H, I1, ⟨t, ?_⟩, ⟨rfl, rfl⟩, st', fun b hb => (hf b hb).1⟩⟩
    rw [Int.mul_one]
  done := by
    intro X hP hw hK hc i pins s σ H E I hf st hg
    subst hP hw hK
    obtain ⟨f0, f1, f2, f3, f4, f5⟩ := hf it (by simp)
    exact wpAny_pyNext_range_end (I.ok.hd hc) st (by have : n ≤ i := hg; omega) fun h' eb => ⟨rfl, I.turned (t' := s.toks) (fun b o hb e => eb b o hb e) f0 f1 f3 f4 f5⟩
  self := fun _ _ _ _ _ st h => wpAny_pyIter_rangeiter st h
end L2

namespace L2
open PySem PySem.Spec PyProof.Rows
section
variable {X : Cx} {tg : Expr}
noncomputable def iList (K : PySem.W.Frag) (tl : TE) : TI := fun σ H R => tl σ H fun x H1 => ∃ a, x = .ref a ∧ (∃ xs, SqL K H1 a xs) ∧ R (Itl K a) H1
noncomputable def iTup (K : PySem.W.Frag) (tl : TE) : TI := fun σ H R => tl σ H fun x H1 => ∃ a, x = .ref a ∧ (∃ xs, SqT K H1 a xs) ∧ R (Itt K a) H1
theorem pi_list {l : Expr} {tl : TE} (hl : PE X l tl) : PI X tg l (iList X.K tl) := by
  intro pins s σ H R I h
  refine thn (hl pins s σ H _ I h) fun v s1 ⟨x, H1, I1, r1, q1⟩ => ?_
  obtain ⟨a, e, ⟨xs, hq⟩, q⟩ := q1
  subst e
  cases r1
  obtain ⟨its, rv, p, hz⟩ := I1.list hq
  refine wpAny_pyIter_list p.isList ?_
  refine ⟨s1.heap.objs.size, [s1.heap.objs.size], _, _, H1, rfl, I1.kept (t' := s1.toks) fun b o e => Heap.get?_push_of_some _ e, turn_list a _, ⟨_, Heap.get?_push_size _ rfl, rfl, rfl⟩, fun b hb => ?_, q⟩
  have e : b = s1.heap.objs.size := by simpa using hb
  subst e
  exact I1.fpOk (Nat.le_refl _) (I1.hok.fresh (Nat.le_refl _))
theorem pi_tup {l : Expr} {tl : TE} (hl : PE X l tl) : PI X tg l (iTup X.K tl) := by
  intro pins s σ H R I h
  refine thn (hl pins s σ H _ I h) fun v s1 ⟨x, H1, I1, r1, q1⟩ => ?_
  obtain ⟨a, e, ⟨xs, hq⟩, q⟩ := q1
  subst e
  cases r1
  obtain ⟨its, rv, p, hz⟩ := I1.tuple hq
  refine wpAny_pyIter_tuple (show s1.heap.IsTuple a its.toArray from p) ?_
  refine ⟨s1.heap.objs.size, [s1.heap.objs.size], _, _, H1, rfl, I1.kept (t' := s1.toks) fun b o e => Heap.get?_push_of_some _ e, turn_tuple a _, ⟨_, Heap.get?_push_size _ rfl, rfl, rfl⟩, fun b hb => ?_, q⟩
  have e : b = s1.heap.objs.size := by simpa using hb
  subst e
  exact I1.fpOk (Nat.le_refl _) (I1.hok.fresh (Nat.le_refl _))
/-- a range object just made, walked -/
theorem range_it {pins : List (Addr × Obj)} {σ : St} {H : Hp} {s : Shared} {R : It → Hp → Prop} {E : Value → Shared → Prop} {lo hi : Int} {t u v : Tok} {tk : Nat} (I : Inv X pins σ H s) (h1 : -(2 ^ 62) ≤ lo) (h2 : lo < 2 ^ 62) (h3 : -(2 ^ 62) ≤ hi) (h4 : hi < 2 ^ 62)
    (q : R (Itr lo (hi - lo).toNat) H) : wpAny (model X.prog X.w) X.A (pyIter (.ref s.heap.objs.size)) (PIE X pins σ tg R) E { s with heap := s.heap.push { cls := .type "range", data := .fields #[.int lo t, .int hi u, .int 1 v] }, toks := tk } := by
  refine wpAny_pyIter_range (IsRange.new ..) (small_one h1 h2 h3 h4) ?_
  have I1 : Inv X pins σ H { s with heap := s.heap.push { cls := .type "range", data := .fields #[.int lo t, .int hi u, .int 1 v] }, toks := tk } := I.kept fun b o e => Heap.get?_push_of_some _ e
  refine ⟨(s.heap.push { cls := .type "range", data := .fields #[.int lo t, .int hi u, .int 1 v] }).objs.size, [(s.heap.push { cls := .type "range", data := .fields #[.int lo t, .int hi u, .int 1 v] }).objs.size], _, _, H, rfl,
    I1.kept (t' := tk) fun b o e => Heap.get?_push_of_some _ e, turn_range _ lo (hi - lo).toNat, ?_, fun b hb => ?_, q⟩
  · have e1 : lo + ((0 : Nat) : Int) * 1 = lo := by simp
    have e2 : (((hi - lo).toNat : Nat) : Int) - ((0 : Nat) : Int) = Builtin.Range.rangeSize lo hi 1 := by rw [rangeSize_one]; split <;> omega
    show IsRangeIter _ _ (lo + ((0 : Nat) : Int) * 1) ((((hi - lo).toNat : Nat) : Int) - ((0 : Nat) : Int)) 1
    rw [e1, e2]
    exact Heap.get?_push_size _ rfl
  · have e : b = (s.heap.push { cls := .type "range", data := .fields #[.int lo t, .int hi u, .int 1 v] }).objs.size := by simpa using hb
    subst e
    exact I1.fpOk (Nat.le_refl _) (I1.hok.fresh (Nat.le_refl _))
noncomputable def iRng1 (ta : TA) : TI := fun σ H R => ta σ H fun vs H1 => ∃ j : Int, vs = [.int j] ∧ -(2 ^ 62) ≤ j ∧ j < 2 ^ 62 ∧ R (Itr 0 j.toNat) H1
theorem pi_range1 {a : Expr} {ta : TA} {p pos : Pos} (hg : Gl X "range") (hm : X.mg "range" = none) (ha : PA X [a] ta) (hs : starEach [a] X.env = [(false, eval a X.env)] := by rfl) : PI X tg (.Call (.Name "range" p) [a] [] pos) (iRng1 ta) := by
  intro pins s σ H R I h
  refine Call_ (ld_blt I hg hm boot_range (PyProof.Rows.callWith_type1 (thn (ha pos pins s σ H _ I h) fun us s1 ⟨vs, H1, I1, r1, q1⟩ => ?_) hs rfl))
  obtain ⟨j, e, q1, q2, q⟩ := q1
  subst e
  cases r1 with
  | cons r rr =>
    cases rr
    obtain ⟨t, rfl⟩ := r
    exact call_range_1 (range_it I1 (by omega) (by omega) q1 q2 (by simpa using q))

/-! ### for -/
/-- W: the invariant by the turn and a measure; N: what the body is to reach -/
noncomputable def tFor (wi : TI) (g : TG) (tb : TS) : TS := fun D σ H => wi σ H fun J H1 => ∃ W : Nat → Nat → St → Hp → Prop, (∃ m, W 0 m σ H1) ∧ ∀ i m σ H, W i m σ H →
  (J.stop i H ∧ D.nx σ H) ∨ (J.go i H ∧ ∃ N : St → Hp → Prop, (∀ σ' H', N σ' H' → ∃ m', m' < m ∧ W (i + 1) m' σ' H') ∧ ∀ x H', J.yld i H x H' → g x σ H' fun σ2 H2 => tb { D with nx := N, ct := N, bk := D.nx } σ2 H2)
/-- the records at fp as they stand -/
noncomputable def pinsAt (fp : List Addr) (h : Heap) : List (Addr × Obj) := fp.filterMap fun b => (h.get? b).map fun o => (b, o)
theorem mem_pinsAt {fp : List Addr} {h : Heap} {b : Addr} {o : Obj} (hb : b ∈ fp) (e : h.get? b = some o) : (b, o) ∈ pinsAt fp h := List.mem_filterMap.mpr ⟨b, hb, by rw [e]; rfl⟩
theorem of_pinsAt {fp : List Addr} {h : Heap} {p : Addr × Obj} (hp : p ∈ pinsAt fp h) : p.1 ∈ fp ∧ h.get? p.1 = some p.2 := by
  obtain ⟨b, hb, e⟩ := List.mem_filterMap.mp hp
  cases q : h.get? b with
  | none => rw [q] at e; cases e
  | some o =>
    rw [q] at e
    have e' : (b, o) = p := Option.some.inj e
    subst e'
    exact ⟨hb, q⟩
theorem Inv.pinned {pins : List (Addr × Obj)} {σ : St} {H : Hp} {s : Shared} {fp : List Addr} (I : Inv X pins σ H s) (hf : ∀ b ∈ fp, FpOk X pins H b) (ho : ∀ b ∈ fp, ∃ o, s.heap.get? b = some o ∧ ∀ v, o.data ≠ .cell v) : Inv X (pins ++ pinsAt fp s.heap) σ H s :=
  I.pins_of fun p hp => (List.mem_append.mp hp).elim (fun z => I.pin p (List.mem_append_right _ z)) fun z => by
    obtain ⟨hb, e⟩ := of_pinsAt z
    obtain ⟨f0, f1, f2, _⟩ := hf p.1 hb
    obtain ⟨o, e', d⟩ := ho p.1 hb
    rw [e] at e'; cases e'
    exact ⟨e, f0, f1, f2, d⟩
theorem Inv.unpinned {pins pl : List (Addr × Obj)} {σ : St} {H : Hp} {s : Shared} (I : Inv X (pins ++ pl) σ H s) : Inv X pins σ H s := I.pins_of fun p hp => I.pin p (List.mem_append_right _ (List.mem_append_left _ hp))
theorem ps_for {iter : Expr} {body : List Stmt} {wi : TI} {g : TG} {tb : TS} {pos : Pos} (hp : PassesOwn (model X.prog X.w) X.A X.env X.xe) (hc : X.calm = true) (hi : PI X tg iter wi) (hg : PG X tg g) (hb : PSs X body tb)
    (hs : ∀ x, foldedSetIterable iter X.env x = pure x := by intro _; rfl) : PS X (.For tg iter body [] pos) (tFor wi g tb) := by
  intro pins s σ H D I h
  refine wpAny_For (thn (hi pins s σ H _ I h) fun v s1 h1 => thn h1 fun itv s2 h2 => ?_) hs
  obtain ⟨it, fp, tn, J, H2, e, I2, T, st2, f2, W, ⟨m0, w0⟩, turn⟩ := h2
  subst e
  -- what stays true of the iterator's objects through the loop
  have stat : ∀ {H' : Hp}, (∀ b ∈ fp, H' b = none) → ∀ b ∈ fp, FpOk X pins H' b := fun hn b hb => ⟨hn b hb, (f2 b hb).2⟩
  refine codeAny_forLoop_any (fun n s' => ∃ i σ' H', Inv X pins σ' H' s' ∧ tn i s'.heap ∧ (∀ b ∈ fp, H' b = none) ∧ W i n σ' H') ?_ m0 ⟨0, σ, H2, I2, st2, fun b hb => (f2 b hb).1, w0⟩
  rintro n s3 ⟨i, σ3, H3, I3, st3, fr3, w3⟩
  rcases turn i n σ3 H3 w3 with ⟨stop, qn⟩ | ⟨go, N, hN, step⟩
  · refine wpAny_passesOwn hp (thn (T.done X rfl rfl rfl hc i pins s3 σ3 H3 X.xe I3 (stat fr3) st3 stop) fun r s4 ⟨hr, I4⟩ => ?_)
    subst hr
    exact wpAny_execs_nil ⟨σ3, H3, I4, qn⟩
  · refine wpAny_passesOwn hp (thn (T.item X rfl rfl rfl hc i pins s3 σ3 H3 X.xe I3 (stat fr3) st3 go) fun r s4 ⟨u, hr, h4⟩ => ?_)
    subst hr
    refine wpAny_passesOwn hp (thn h4 fun _ s5 ⟨x, H5, I5, r5, y5, st5, fr5⟩ => ?_)
    have I5' := I5.pinned (stat fr5) (T.obj _ _ st5)
    refine wpAny_passesOwn hp (thn (hg _ s5 σ3 H5 x u _ I5' r5 (step x H5 y5)) fun _ s6 ⟨σ6, H6, I6, q6⟩ => ?_)
    refine wpAny_passesOwn hp (thn (hb _ s6 σ6 H6 _ I6 q6) fun f s7 q7 => ?_)
    have again : ∀ {σ7 : St} {H7 : Hp}, Inv X (pins ++ pinsAt fp s5.heap) σ7 H7 s7 → N σ7 H7 → ∃ m, m < n ∧ ∃ i σ' H', Inv X pins σ' H' s7 ∧ tn i s7.heap ∧ (∀ b ∈ fp, H' b = none) ∧ W i m σ' H' := fun {σ7 H7} I7 n7 => by
      obtain ⟨m', hm, w7⟩ := hN σ7 H7 n7
      refine ⟨m', hm, i + 1, σ7, H7, I7.unpinned, T.keep _ _ _ st5 fun b hb o e => (I7.pin (b, o) (List.mem_append_right _ (List.mem_append_right _ (mem_pinsAt hb e)))).1, fun b hb => ?_, w7⟩
      obtain ⟨o, e, d⟩ := T.obj _ _ st5 b hb
      exact (I7.pin (b, o) (List.mem_append_right _ (List.mem_append_right _ (mem_pinsAt hb e)))).2.1
    cases f with
    | next => obtain ⟨σ7, H7, I7, n7⟩ := q7; exact again I7 n7
    | cont => obtain ⟨σ7, H7, I7, n7⟩ := q7; exact again I7 n7
    | brk => obtain ⟨σ7, H7, I7, q7⟩ := q7; exact ⟨σ7, H7, I7.unpinned, q7⟩
    | ret v => obtain ⟨x7, σ7, H7, I7, r7, q7⟩ := q7; exact ⟨x7, σ7, H7, I7.unpinned, r7, q7⟩
end

/-! ### the forms one uses -/
/-- over a list that the body leaves as it is -/
theorem for_list {K : PySem.W.Frag} {a : Addr} {xs : List V} {g : TG} {tb : TS} {D : Ends} {σ : St} {H : Hp} (Pv : Nat → St → Hp → Prop) (h0 : Pv 0 σ H) (hl : ∀ i σ H, i ≤ xs.length → Pv i σ H → SqL K H a xs)
    (hs : ∀ i x σ H, xs[i]? = some x → Pv i σ H → g x σ H fun σ2 H2 => tb { D with nx := Pv (i + 1), ct := Pv (i + 1), bk := D.nx } σ2 H2) (hd : ∀ σ H, Pv xs.length σ H → D.nx σ H) :
    ∃ W : Nat → Nat → St → Hp → Prop, (∃ m, W 0 m σ H) ∧ ∀ i m σ H, W i m σ H →
      ((Itl K a).stop i H ∧ D.nx σ H) ∨ ((Itl K a).go i H ∧ ∃ N : St → Hp → Prop, (∀ σ' H', N σ' H' → ∃ m', m' < m ∧ W (i + 1) m' σ' H') ∧ ∀ x H', (Itl K a).yld i H x H' → g x σ H' fun σ2 H2 => tb { D with nx := N, ct := N, bk := D.nx } σ2 H2) := by
  refine ⟨fun i m σ H => m = xs.length - i ∧ i ≤ xs.length ∧ Pv i σ H, ⟨xs.length, by simp, Nat.zero_le _, h0⟩, ?_⟩
  rintro i m σ H ⟨rfl, hi, p⟩
  have q := hl i σ H hi p
  by_cases hlt : i < xs.length
  · refine .inr ⟨⟨xs, xs[i], q, by simp [hlt]⟩, Pv (i + 1), fun σ' H' p' => ⟨xs.length - (i + 1), by omega, rfl, hlt, p'⟩, fun x H' y => ?_⟩
    obtain ⟨e, y⟩ := y
    subst e
    exact hs i x σ _ (y xs q) p
  · have e : i = xs.length := by omega
    subst e
    exact .inl ⟨⟨xs, q, Nat.le_refl _⟩, hd σ H p⟩
theorem for_range {lo : Int} {n : Nat} {g : TG} {tb : TS} {D : Ends} {σ : St} {H : Hp} (Pv : Nat → St → Hp → Prop) (h0 : Pv 0 σ H)
    (hs : ∀ i σ H, i < n → Pv i σ H → g (.int (lo + i)) σ H fun σ2 H2 => tb { D with nx := Pv (i + 1), ct := Pv (i + 1), bk := D.nx } σ2 H2) (hd : ∀ σ H, Pv n σ H → D.nx σ H) :
    ∃ W : Nat → Nat → St → Hp → Prop, (∃ m, W 0 m σ H) ∧ ∀ i m σ H, W i m σ H →
      ((Itr lo n).stop i H ∧ D.nx σ H) ∨ ((Itr lo n).go i H ∧ ∃ N : St → Hp → Prop, (∀ σ' H', N σ' H' → ∃ m', m' < m ∧ W (i + 1) m' σ' H') ∧ ∀ x H', (Itr lo n).yld i H x H' → g x σ H' fun σ2 H2 => tb { D with nx := N, ct := N, bk := D.nx } σ2 H2) := by
  refine ⟨fun i m σ H => m = n - i ∧ i ≤ n ∧ Pv i σ H, ⟨n, by simp, Nat.zero_le _, h0⟩, ?_⟩
  rintro i m σ H ⟨rfl, hi, p⟩
  by_cases hlt : i < n
  · refine .inr ⟨hlt, Pv (i + 1), fun σ' H' p' => ⟨n - (i + 1), by omega, rfl, hlt, p'⟩, fun x H' y => ?_⟩
    obtain ⟨e, y⟩ := y
    subst e y
    exact hs i σ _ hlt p
  · have e : i = n := by omega
    subst e
    exact .inl ⟨Nat.le_refl _, hd σ H p⟩
end L2

namespace L2
open PySem PySem.Spec PyProof.Rows

noncomputable abbrev R2 := V → V → Hp → VK → Prop
/-- a two-place operation on values: f is binaryOp op, inplaceOp op or compareOp op -/
noncomputable def OpR (X : Cx) (f : Value → Value → Sem Value) (r : R2) : Prop :=
  ∀ (pins : List (Addr × Obj)) (s : Shared) (σ : St) (H : Hp) (x y : V) (v u : Value) (Q : VK), Inv X pins σ H s → RelV x v → RelV y u → r x y H Q →
    wpAny (model X.prog X.w) X.A (f v u) (EP X pins σ Q) X.xe s
/-- a one-place operation -/
noncomputable def UnR (X : Cx) (f : Value → Sem Value) (r : V → Hp → VK → Prop) : Prop :=
  ∀ (pins : List (Addr × Obj)) (s : Shared) (σ : St) (H : Hp) (x : V) (v : Value) (Q : VK), Inv X pins σ H s → RelV x v → r x H Q →
    wpAny (model X.prog X.w) X.A (f v) (EP X pins σ Q) X.xe s
/-- a call of a value that is known (a builtin, a type) with values -/
noncomputable def CallR (X : Cx) (f : Value) (r : List V → Hp → VK → Prop) : Prop :=
  ∀ (pins : List (Addr × Obj)) (s : Shared) (σ : St) (H : Hp) (xs : List V) (us : List Value) (Q : VK), Inv X pins σ H s → Vals xs us → r xs H Q →
    wpAny (model X.prog X.w) X.A (call f us) (EP X pins σ Q) X.xe s

noncomputable def tOp (r : R2) (ta tb : TE) : TE := fun σ H Q => ta σ H fun x H1 => tb σ H1 fun y H2 => r x y H2 Q
noncomputable def tUn (r : V → Hp → VK → Prop) (ta : TE) : TE := fun σ H Q => ta σ H fun x H1 => r x H1 Q
/-- ints in, under C, and a value out -/
noncomputable def rI (C : Int → Int → Prop) (g : Int → Int → V) : R2 := fun x y H Q => ∃ i j, x = .int i ∧ y = .int j ∧ C i j ∧ Q (g i j) H
noncomputable def rI0 (g : Int → Int → V) : R2 := fun x y H Q => ∃ i j, x = .int i ∧ y = .int j ∧ Q (g i j) H
noncomputable def rU (g : Int → V) : V → Hp → VK → Prop := fun x H Q => ∃ i, x = .int i ∧ Q (g i) H

section
variable {X : Cx} {a b c : Expr} {ta tb tc : TE} {pos : Pos}

theorem binT (ha : PE X a ta) (hb : PE X b tb) {pins : List (Addr × Obj)} {s : Shared} {σ : St} {H : Hp} {R : V → V → Hp → Prop} (I : Inv X pins σ H s)
    (h : ta σ H fun x H1 => tb σ H1 fun y H2 => R x y H2) {Q : Value → Shared → Prop} {f : Value → Value → Sem Value}
    (hf : ∀ v u s2 x y H2, Inv X pins σ H2 s2 → RelV x v → RelV y u → R x y H2 → wpAny (model X.prog X.w) X.A (f v u) Q X.xe s2) :
    wpAny (model X.prog X.w) X.A (eval a X.env) (fun v s₁ => wpAny (model X.prog X.w) X.A (eval b X.env) (fun u s₂ => wpAny (model X.prog X.w) X.A (f v u) Q X.xe s₂) X.xe s₁) X.xe s := by
  refine thn (ha pins s σ H _ I h) fun v s1 ⟨x, H1, I1, r1, q1⟩ => ?_
  refine thn (hb pins s1 σ H1 _ I1 q1) fun u s2 ⟨y, H2, I2, r2, q2⟩ => ?_
  exact hf v u s2 x y H2 I2 r1 r2 q2

theorem pe_op {op : Operator} {r : R2} (ho : OpR X (binaryOp op) r) (ha : PE X a ta) (hb : PE X b tb) : PE X (.BinOp a op b pos) (tOp r ta tb) := by
  intro pins s σ H Q I h
  exact wpAny_BinOp (binT ha hb I h fun v u s2 x y H2 I2 rx ry q => ho pins s2 σ H2 x y v u Q I2 rx ry q)
theorem pe_un {op : UnaryOp} {r : V → Hp → VK → Prop} (ho : UnR X (unaryOp op) r) (ha : PE X a ta) : PE X (.UnaryOp op a pos) (tUn r ta) := by
  intro pins s σ H Q I h
  exact UnaryOp_ (thn (ha pins s σ H _ I h) fun v s1 ⟨x, H1, I1, r1, q1⟩ => ho pins s1 σ H1 x v Q I1 r1 q1)

/-! ### ints -/
theorem opI {f : Value → Value → Sem Value} {C : Int → Int → Prop} {g : Int → Int → Int}
    (rule : ∀ (i j : Int) (t u : Tok) (s : Shared) (Q : Value → Shared → Prop) (E : Value → Shared → Prop), C i j → Q (.int (g i j) s.toks) { s with toks := s.toks + 1 } → wpAny (model X.prog X.w) X.A (f (.int i t) (.int j u)) Q E s) :
    OpR X f (rI C fun i j => .int (g i j)) := by
  intro pins s σ H x y v u Q I rx ry h
  obtain ⟨i, j, rfl, rfl, hc, q⟩ := h
  obtain ⟨t, rfl⟩ := rx
  obtain ⟨t', rfl⟩ := ry
  exact rule i j t t' s _ _ hc ⟨.int (g i j), H, I.tok _, ⟨_, rfl⟩, q⟩
theorem opI0 {f : Value → Value → Sem Value} {g : Int → Int → Int}
    (rule : ∀ (i j : Int) (t u : Tok) (s : Shared) (Q : Value → Shared → Prop) (E : Value → Shared → Prop), Q (.int (g i j) s.toks) { s with toks := s.toks + 1 } → wpAny (model X.prog X.w) X.A (f (.int i t) (.int j u)) Q E s) :
    OpR X f (rI0 fun i j => .int (g i j)) := by
  intro pins s σ H x y v u Q I rx ry h
  obtain ⟨i, j, rfl, rfl, q⟩ := h
  obtain ⟨t, rfl⟩ := rx
  obtain ⟨t', rfl⟩ := ry
  exact rule i j t t' s _ _ ⟨.int (g i j), H, I.tok _, ⟨_, rfl⟩, q⟩
theorem opB0 {f : Value → Value → Sem Value} {g : Int → Int → Bool}
    (rule : ∀ (i j : Int) (t u : Tok) (s : Shared) (Q : Value → Shared → Prop) (E : Value → Shared → Prop), Q (.bool (g i j)) s → wpAny (model X.prog X.w) X.A (f (.int i t) (.int j u)) Q E s) :
    OpR X f (rI0 fun i j => .bl (g i j)) := by
  intro pins s σ H x y v u Q I rx ry h
  obtain ⟨i, j, rfl, rfl, q⟩ := h
  obtain ⟨t, rfl⟩ := rx
  obtain ⟨t', rfl⟩ := ry
  exact rule i j t t' s _ _ ⟨.bl (g i j), H, I, rfl, q⟩

noncomputable def CPow (i j : Int) : Prop := 0 ≤ j ∧ j ≤ 1000000 ∧ i.natAbs < 2 ^ 64
noncomputable def CMul (i j : Int) : Prop := (-(2 ^ 64) < i ∧ i < 2 ^ 64) ∨ (-(2 ^ 64) < j ∧ j < 2 ^ 64)
theorem CMul.ok {i j : Int} (h : CMul i j) : IntMulOk i j := by
  rcases h with ⟨h1, h2⟩ | ⟨h1, h2⟩
  · exact .of_left (intBits_le_64 h1 h2)
  · exact .of_right (intBits_le_64 h1 h2)

theorem op_add : OpR X (binaryOp .Add) (rI0 fun i j => .int (i + j)) := opI0 fun _ _ _ _ _ _ _ q => add_int q
theorem op_sub : OpR X (binaryOp .Sub) (rI0 fun i j => .int (i - j)) := opI0 fun _ _ _ _ _ _ _ q => sub_int q
theorem op_mul : OpR X (binaryOp .Mult) (rI CMul fun i j => .int (i * j)) := opI fun _ _ _ _ _ _ _ hc q => mul_int q hc.ok
/-- % by a positive divisor of any size -/
theorem op_mod : OpR X (binaryOp .Mod) (rI (fun _ j => 0 < j) fun i j => .int (i % j)) := opI fun i j _ _ _ _ _ hc q => by
  have h1 : (0 : Int) < j := hc
  exact mod_int' (by omega) (by rw [Int.fmod_eq_emod_of_nonneg i (by omega)]; exact q)
theorem op_pow : OpR X (binaryOp .Pow) (rI CPow fun i j => .int (i ^ j.toNat)) := opI fun _ _ _ _ _ _ _ hc q => pow_int_small hc.1 hc.2.1 hc.2.2 q


theorem unI {f : Value → Sem Value} {g : Int → Int}
    (rule : ∀ (i : Int) (t : Tok) (s : Shared) (Q : Value → Shared → Prop) (E : Value → Shared → Prop), Q (.int (g i) s.toks) { s with toks := s.toks + 1 } → wpAny (model X.prog X.w) X.A (f (.int i t)) Q E s) :
    UnR X f (rU fun i => .int (g i)) := by
  intro pins s σ H x v Q I rx h
  obtain ⟨i, rfl, q⟩ := h
  obtain ⟨t, rfl⟩ := rx
  exact rule i t s _ _ ⟨.int (g i), H, I.tok _, ⟨_, rfl⟩, q⟩
theorem un_neg : UnR X (unaryOp .USub) (rU fun i => .int (-i)) := unI fun _ _ _ _ _ q => neg_int q

/-! ### bools among ints: n += (a < b) -/
end

/-! ### comparisons -/
/-- the scalars that == tells apart as data does -/
noncomputable def scal : V → V → Bool
  | .non, .non => true | .non, .int _ => true | .int _, .non => true | .non, .bl _ => true | .bl _, .non => true | .non, .str _ => true | .str _, .non => true
  | .int _, .int _ => true | .bl _, .bl _ => true | .str _, .str _ => true | .byt _, .byt _ => true
  | .int _, .str _ => true | .str _, .int _ => true | .bl _, .str _ => true | .str _, .bl _ => true
  | _, _ => false
noncomputable def rEq : R2 := fun x y H Q => scal x y = true ∧ Q (.bl (decide (x = y))) H
noncomputable def rNe : R2 := fun x y H Q => scal x y = true ∧ Q (.bl (!decide (x = y))) H

theorem dec_int {i j : Int} : decide (V.int i = V.int j) = (i == j) := by
  rw [Bool.eq_iff_iff]
  simp
theorem dec_bl {i j : Bool} : decide (V.bl i = V.bl j) = (i == j) := by
  rw [Bool.eq_iff_iff]
  simp
theorem dec_str {i j : Str} : decide (V.str i = V.str j) = (i == j) := by
  rw [Bool.eq_iff_iff]
  simp
theorem dec_byt {i j : Array UInt8} : decide (V.byt i = V.byt j) = (i.toList == j.toList) := by
  rw [Bool.eq_iff_iff]
  cases i
  cases j
  simp

section
variable {X : Cx} {a b c : Expr} {ta tb tc : TE} {pos : Pos}
theorem fin_bl {pins : List (Addr × Obj)} {σ : St} {H : Hp} {s : Shared} {Q : VK} {k k' : Bool} (I : Inv X pins σ H s) (q : Q (.bl k) H) (e : k = k') : EP X pins σ Q (.bool k') s := by
  subst e
  exact ⟨.bl k, H, I, rfl, q⟩
theorem op_eq : OpR X (compareOp .Eq) rEq := by
  intro pins s σ H x y v u Q I rx ry h
  obtain ⟨hs, q⟩ := h
  cases x with
  | non =>
    cases rx
    cases y with
    | non => cases ry; exact PySem.EqNone.eq_none_none (fin_bl I q (by simp))
    | bl j => cases ry; exact PySem.EqNone.eq_none_bool (fin_bl I q (by simp))
    | int j => obtain ⟨t', rfl⟩ := ry; exact PySem.EqNone.eq_none_int (fin_bl I q (by simp))
    | str j => obtain ⟨t', rfl⟩ := ry; exact PySem.EqNone.eq_none_str (fin_bl I q (by simp))
    | _ => exact absurd (show false = true from hs) Bool.false_ne_true
  | bl i =>
    cases rx
    cases y with
    | non => cases ry; exact PySem.EqNone.eq_bool_none (fin_bl I q (by simp))
    | bl j => cases ry; exact eq_bool (fin_bl I q dec_bl)
    | str j => obtain ⟨t', rfl⟩ := ry; exact PySem.EqMixed.eq_bool_str (fin_bl I q (by simp))
    | _ => exact absurd (show false = true from hs) Bool.false_ne_true
  | int i =>
    obtain ⟨t, rfl⟩ := rx
    cases y with
    | non => cases ry; exact PySem.EqNone.eq_int_none (fin_bl I q (by simp))
    | int j => obtain ⟨t', rfl⟩ := ry; exact eq_int (fin_bl I q dec_int)
    | str j => obtain ⟨t', rfl⟩ := ry; exact PySem.EqMixed.eq_int_str (fin_bl I q (by simp))
    | _ => exact absurd (show false = true from hs) Bool.false_ne_true
  | str i =>
    obtain ⟨t, rfl⟩ := rx
    cases y with
    | non => cases ry; exact PySem.EqNone.eq_str_none (fin_bl I q (by simp))
    | bl j => cases ry; exact PySem.EqMixed.eq_str_bool (fin_bl I q (by simp))
    | int j => obtain ⟨t', rfl⟩ := ry; exact PySem.EqMixed.eq_str_int (fin_bl I q (by simp))
    | str j => obtain ⟨t', rfl⟩ := ry; exact eq_str (fin_bl I q dec_str)
    | _ => exact absurd (show false = true from hs) Bool.false_ne_true
  | byt i =>
    obtain ⟨t, rfl⟩ := rx
    cases y with
    | byt j => obtain ⟨t', rfl⟩ := ry; exact PySem.W.eq_bytes (fin_bl I q dec_byt)
    | _ => exact absurd (show false = true from hs) Bool.false_ne_true
  | _ => cases y <;> exact absurd (show false = true from hs) Bool.false_ne_true
theorem op_ne : OpR X (compareOp .NotEq) rNe := by
  intro pins s σ H x y v u Q I rx ry h
  obtain ⟨hs, q⟩ := h
  cases x with
  | non =>
    cases rx
    cases y with
    | non => cases ry; exact PySem.EqNone.ne_none_none (fin_bl I q (by simp))
    | bl j => cases ry; exact PySem.EqNone.ne_none_bool (fin_bl I q (by simp))
    | int j => obtain ⟨t', rfl⟩ := ry; exact PySem.EqNone.ne_none_int (fin_bl I q (by simp))
    | str j => obtain ⟨t', rfl⟩ := ry; exact PySem.EqNone.ne_none_str (fin_bl I q (by simp))
    | _ => exact absurd (show false = true from hs) Bool.false_ne_true
  | bl i =>
    cases rx
    cases y with
    | non => cases ry; exact PySem.EqNone.ne_bool_none (fin_bl I q (by simp))
    | bl j => cases ry; exact ne_bool (fin_bl I q (congrArg not dec_bl))
    | str j => obtain ⟨t', rfl⟩ := ry; exact PySem.EqMixed.ne_bool_str (fin_bl I q (by simp))
    | _ => exact absurd (show false = true from hs) Bool.false_ne_true
  | int i =>
    obtain ⟨t, rfl⟩ := rx
    cases y with
    | non => cases ry; exact PySem.EqNone.ne_int_none (fin_bl I q (by simp))
    | int j => obtain ⟨t', rfl⟩ := ry; exact ne_int (fin_bl I q (congrArg not dec_int))
    | str j => obtain ⟨t', rfl⟩ := ry; exact PySem.EqMixed.ne_int_str (fin_bl I q (by simp))
    | _ => exact absurd (show false = true from hs) Bool.false_ne_true
  | str i =>
    obtain ⟨t, rfl⟩ := rx
    cases y with
    | non => cases ry; exact PySem.EqNone.ne_str_none (fin_bl I q (by simp))
    | bl j => cases ry; exact PySem.EqMixed.ne_str_bool (fin_bl I q (by simp))
    | int j => obtain ⟨t', rfl⟩ := ry; exact PySem.EqMixed.ne_str_int (fin_bl I q (by simp))
    | str j => obtain ⟨t', rfl⟩ := ry; exact ne_str (fin_bl I q (congrArg not dec_str))
    | _ => exact absurd (show false = true from hs) Bool.false_ne_true
  | byt i =>
    obtain ⟨t, rfl⟩ := rx
    cases y with
    | byt j => obtain ⟨t', rfl⟩ := ry; exact PySem.W.ne_bytes (fin_bl I q (congrArg not dec_byt))
    | _ => exact absurd (show false = true from hs) Bool.false_ne_true
  | _ => cases y <;> exact absurd (show false = true from hs) Bool.false_ne_true

theorem op_lt : OpR X (compareOp .Lt) (rI0 fun i j => .bl (decide (i < j))) := opB0 fun _ _ _ _ _ _ _ q => lt_int q
theorem op_gt : OpR X (compareOp .Gt) (rI0 fun i j => .bl (decide (j < i))) := opB0 fun _ _ _ _ _ _ _ q => gt_int q




theorem nomark (b : Expr) {op : CmpOp} (h : op ≠ .In := by decide) (h2 : op ≠ .NotIn := by decide) : behindInMarks op b = false := by
  have e1 : (op == CmpOp.In) = false := by cases op <;> first | rfl | exact absurd rfl h
  have e2 : (op == CmpOp.NotIn) = false := by cases op <;> first | rfl | exact absurd rfl h2
  cases b <;> simp [behindInMarks, e1, e2]
/-- a comparison as a value; hm: nomark b, or (for in, not in) by with_unfolding_all rfl -/
theorem pe_cmpR {op : CmpOp} {r : R2} (ho : OpR X (compareOp op) r) (ha : PE X a ta) (hb : PE X b tb) (hm : behindInMarks op b = false) : PE X (.Compare a [op] [b] pos) (tOp r ta tb) := by
  intro pins s σ H Q I h
  exact wpAny_Compare1 (binT ha hb I h fun v u s2 x y H2 I2 rx ry q => ho pins s2 σ H2 x y v u Q I2 rx ry q) hm
/-- a reading of a value as a test -/
noncomputable def tTest (t : TE) : TT := fun σ H Q => t σ H fun x H' => ∃ k, x = .bl k ∧ Q k H'
theorem pt_cmpR {op : CmpOp} {r : R2} (ho : OpR X (compareOp op) r) (ha : PE X a ta) (hb : PE X b tb) (hm : behindInMarks op b = false) : PT X (.Compare a [op] [b] pos) (tTest (tOp r ta tb)) := by
  intro pins s σ H Q I h
  refine wpAny_isTrue_Compare1 (thn (ha pins s σ H _ I h) fun v s1 ⟨x, H1, I1, r1, q1⟩ => thn (hb pins s1 σ H1 _ I1 q1) fun u s2 ⟨y, H2, I2, r2, q2⟩ =>
    thn (ho pins s2 σ H2 x y v u _ I2 r1 r2 q2) fun c s3 ⟨z, H3, I3, r3, k, e, q3⟩ => ?_) hm
  subst e
  cases r3
  exact wpAny_truthy_bool ⟨H3, I3, q3⟩

/-! ### truth -/
theorem line63 : (sizeLine : Nat) < 2 ^ 63 := by rw [sizeLine_eq]; decide

/-! ### strs and bytes -/
theorem op_add_str : OpR X (binaryOp .Add) (fun x y H Q => ∃ i j, x = .str i ∧ y = .str j ∧ i.length + j.length ≤ sizeLine ∧ Q (.str (i ++ j)) H) := by
  intro pins s σ H x y v u Q I rx ry h
  obtain ⟨i, j, rfl, rfl, hz, q⟩ := h
  obtain ⟨t, rfl⟩ := rx
  obtain ⟨t', rfl⟩ := ry
  exact add_str (fun t' tk => ⟨.str (i ++ j), H, I.tok _, ⟨_, rfl⟩, q⟩) hz


/-! ### scalar builtins, by CallR -/
theorem vals1 {x : V} {us : List Value} (r : Vals [x] us) : ∃ u, us = [u] ∧ RelV x u := by
  cases r with
  | cons r1 r2 => cases r2; exact ⟨_, rfl, r1⟩
theorem vals2 {x y : V} {us : List Value} (r : Vals [x, y] us) : ∃ u w', us = [u, w'] ∧ RelV x u ∧ RelV y w' := by
  cases r with
  | cons r1 r2 =>
    cases r2 with
    | cons r3 r4 => cases r4; exact ⟨_, _, rfl, r1, r3⟩
theorem call_max2 (hc : X.calm = true) : CallR X (.builtin "max") (fun xs H Q => ∃ i j, xs = [.int i, .int j] ∧ Q (.int (if j > i then j else i)) H) := by
  intro pins s σ H xs us Q I r h
  obtain ⟨i, j, rfl, q⟩ := h
  obtain ⟨u, w', rfl, ⟨t, rfl⟩, ⟨t', rfl⟩⟩ := vals2 r
  refine max_two_ints (I.ok.hd hc) fun h' tk k => ⟨_, H, I.kept k, ?_, q⟩
  by_cases hj : j > i
  · rw [if_pos hj, if_pos hj]; exact ⟨_, rfl⟩
  · rw [if_neg hj, if_neg hj]; exact ⟨_, rfl⟩
theorem call_int1 : CallR X (.type "int") (fun xs H Q => (∃ i, xs = [.int i] ∧ Q (.int i) H) ∨ ∃ k, xs = [.bl k] ∧ Q (.int (if k then 1 else 0)) H) := by
  intro pins s σ H xs us Q I r h
  rcases h with ⟨i, rfl, q⟩ | ⟨k, rfl, q⟩
  · obtain ⟨u, rfl, t, rfl⟩ := vals1 r
    exact call_int_int ⟨.int i, H, I, ⟨_, rfl⟩, q⟩
  · obtain ⟨u, rfl, r1⟩ := vals1 r
    cases r1
    exact call_int_bool ⟨.int (if k then 1 else 0), H, I.tok _, ⟨_, rfl⟩, q⟩
end
end L2

namespace L2
open PySem PySem.Spec PyProof.Rows

/-! ### an instance, its attributes a map -/
structure ObjM (h : Heap) (x dx C : Addr) (mA : Str → Option Value) : Prop where
  obj : h.get? x = some (PySem.W.instObj C dx)
  ns : h.Ns1 dx mA
  ne : dx ≠ x

theorem lookIn_ns {h : Heap} {dx : Addr} {mA : Str → Option Value} (n : h.Ns1 dx mA) : ∃ od, h.get? dx = some od ∧ ∀ name, PySem.W.lookIn name od = some (mA name) := by
  obtain ⟨o, es, ep, ho, hd, hk, _, hm⟩ := n
  refine ⟨o, ho, fun name => ?_⟩
  have e := hm name
  unfold nsFind findBy at e
  rw [← Array.find?_toList] at e
  unfold PySem.W.lookIn
  rw [hd]
  dsimp only
  split
  · rename_i y q
    rw [q] at e
    exact congrArg some e
  · rename_i q
    rw [q] at e
    have a : es.toList.any (·.refKey) = false := by
      rw [List.any_eq_false]
      intro y hy
      obtain ⟨z, t, hkey⟩ := hk y (Array.mem_toList_iff.mp hy)
      simp [DictEntry.refKey, hkey]
    have a' : ¬ es.toList.any (·.refKey) = true := by rw [a]; exact Bool.false_ne_true
    rw [if_neg a']
    exact congrArg some e

theorem ObjM.look {h : Heap} {x dx C : Addr} {mA : Str → Option Value} (I : ObjM h x dx C mA) : ∃ od, PySem.W.InstAt h x (PySem.W.instObj C dx) C (some od) ∧ ∀ name, PySem.W.lookIn name od = some (mA name) :=
  let ⟨od, ho, hl⟩ := lookIn_ns I.ns
  ⟨od, ⟨I.obj, rfl, rfl, ho⟩, hl⟩

section
variable {prog : Program} {w : World} {A : Around} {E : Value → Shared → Prop} {s : Shared} {K : PySem.W.Frag} {x dx C f : Addr} {mA : Str → Option Value} {name : Str} {v : Value}





end

/-! ### the attributes as a list of pairs -/

theorem RelO.some_of {v : V} {o : Option Value} (r : RelO (some v) o) : ∃ u, o = some u ∧ RelV v u := by
  cases o with
  | none => exact (show False from r).elim
  | some u => exact ⟨u, rfl, r⟩

section
variable {P : Program} {w : World} {H H' : Hp} {h h' : Heap} {a C dx : Addr} {fs fs' : List (Str × V)}
theorem ins_get (hok : HOk P w H h) (e : H a = some (.ins C dx fs)) : ∃ mA, ObjM h a dx C mA ∧ (∀ f, RelO (fs.lookup f) (mA f)) ∧ PySem.Within mA (fs.map (·.1)) ∧ fs.length ≤ 1000 ∧ H dx = some (.own a) := by
  obtain ⟨d, z, ne, ob, mA, n, r, q⟩ := (show ObjOk P w H h a (.ins C dx fs) from hok a _ e)
  exact ⟨mA, ⟨ob, n, ne⟩, r, q, z, d⟩
end

/-! ### what of the text a class must have -/
structure Cls (K : PySem.W.Frag) (C : Addr) : Prop where
  pg : PySem.W.plainGet K C Str.empty = true
  hd : PySem.W.hasDictIn K C = true
  po : PySem.W.plainOver K C = true
  sa : PySem.W.findIn K (.ref C) "__setattr__" = some (some (.builtin "object.__setattr__"))
theorem Cls.get {K : PySem.W.Frag} {C : Addr} (c : Cls K C) (f : Str) : PySem.W.plainGet K C f = true := c.pg

section
variable {X : Cx} {pins : List (Addr × Obj)} {σ : St} {H : Hp} {s : Shared} {a C dx : Addr} {fs : List (Str × V)} {f : Str} {v : V} {A : Around} {E : Value → Shared → Prop}






end

/-! ### readings and rules -/

section
variable {X : Cx} {o e value : Expr} {f : Str} {pos pos' tpos : Pos} {ta tv : TE}

end

/-! ### isinstance -/
section
variable {X : Cx} {pins : List (Addr × Obj)} {σ : St} {H : Hp} {s : Shared} {A : Around} {E : Value → Shared → Prop} {Q : Value → Shared → Prop} {c : Value} {b : Bool}
/-- the type of a value, as the fragment's deciders take it; for an instance its class -/
inductive TyOf (K : PySem.W.Frag) (H : Hp) : V → Value → Prop where
  | non : TyOf K H .non (.type "NoneType")
  | bl (x : Bool) : TyOf K H (.bl x) (.type "bool")
  | int (i : Int) : TyOf K H (.int i) (.type "int")
  | str (x : Str) : TyOf K H (.str x) (.type "str")
  | flt (x : UInt64) : TyOf K H (.flt x) (.type "float")
  | lst {a : Addr} {xs : List V} (e : H a = some (.lst xs)) : TyOf K H (.ref a) (.type "list")
  | frz {a : Addr} {o : Obj} {xs : List V} (e : H a = some (.frz o (.lst xs))) : TyOf K H (.ref a) (.type "list")
  | tup {a : Addr} {xs : List V} (e : H a = some (.tup xs)) : TyOf K H (.ref a) (.type "tuple")
  | dK {a : Addr} {kvs : List (Key × V)} (e : H a = some (.dK kvs)) : TyOf K H (.ref a) (.type "dict")
  | dT {a : Addr} {kvs : List (List Key × V)} (e : H a = some (.dT kvs)) : TyOf K H (.ref a) (.type "dict")
  | ins {a C dx : Addr} {fs : List (Str × V)} (e : H a = some (.ins C dx fs)) (cl : Cls K C) (ha : PySem.W.findIn K (.ref C) "__class__" = some (some (.builtin "object.__class__")))
      (hn : PySem.W.specialIn K (.builtin "object.__class__") "__get__" = some (some (.builtin "getset_descriptor.__get__"))) (htk : PySem.W.takesIn K (.builtin "object.__class__") = some true)
      (hm : PySem.W.mroIn K C (.type "object") = some true) : TyOf K H (.ref a) (.ref C)
/-- isinstance(x, c) for one class c, a built-in or an own one: kitOne's answer -/
theorem isinst_ok {x : V} {u t : Value} (I : Inv X pins σ H s) (rx : RelV x u) (ty : TyOf X.K H x t) (e : PySem.W.kitOne X.K t c = some b) (h : ∀ tk, Q (.bool b) { s with toks := tk }) :
    wpAny (model X.prog X.w) A (call (.builtin "isinstance") [u, c]) Q E s := by
  cases ty with
  | non => cases (show u = Value.none from rx); exact PySem.W.kia_one PySem.W.kitx_none I.kIn True.intro e (fun z => nomatch z) h
  | bl y => cases (show u = Value.bool y from rx); exact PySem.W.kia_one PySem.W.kitx_bool I.kIn True.intro e (fun z => nomatch z) h
  | int i => obtain ⟨t, q⟩ := (show ∃ t, u = Value.int i t from rx); cases q; exact PySem.W.kia_one PySem.W.kitx_int I.kIn True.intro e (fun z => nomatch z) h
  | str y => obtain ⟨t, q⟩ := (show ∃ t, u = Value.str y t from rx); cases q; exact PySem.W.kia_one PySem.W.kitx_str I.kIn True.intro e (fun z => nomatch z) h
  | flt y => obtain ⟨t, q⟩ := (show ∃ t, u = Value.float y t from rx); cases q; exact PySem.W.kia_one PySem.W.kitx_float I.kIn True.intro e (fun z => nomatch z) h
  | @lst a xs ea =>
    cases (show u = Value.ref a from rx)
    obtain ⟨_, _, n, _, h1⟩ := (show ObjOk X.prog X.w H s.heap a (.lst xs) from I.hok a _ ea)
    exact PySem.W.kia_one PySem.W.kitx_list I.kIn ⟨_, h1, rfl⟩ e (fun z => nomatch z) h
  | @frz a ob xs ea =>
    cases (show u = Value.ref a from rx)
    obtain ⟨_, _, _, n, _, h1⟩ := (show ObjOk X.prog X.w H s.heap a (.frz ob (.lst xs)) from I.hok a _ ea)
    exact PySem.W.kia_one PySem.W.kitx_list I.kIn ⟨_, h1, rfl⟩ e (fun z => nomatch z) h
  | @tup a xs ea =>
    cases (show u = Value.ref a from rx)
    obtain ⟨_, _, _, p⟩ := (show ObjOk X.prog X.w H s.heap a (.tup xs) from I.hok a _ ea)
    obtain ⟨o, h1, h2, _⟩ := p
    exact PySem.W.kia_one PySem.W.kitx_tuple I.kIn ⟨o, h1, h2⟩ e (fun z => nomatch z) h
  | @dK a kvs ea =>
    cases (show u = Value.ref a from rx)
    obtain ⟨_, _, vs, _, p⟩ := (show ObjOk X.prog X.w H s.heap a (.dK kvs) from I.hok a _ ea)
    obtain ⟨o, es, ep, h1, h2, _⟩ := p
    exact PySem.W.kia_one PySem.W.kitx_dict I.kIn ⟨o, h1, h2.1⟩ e (fun z => nomatch z) h
  | @dT a kvs ea =>
    cases (show u = Value.ref a from rx)
    obtain ⟨_, _, xs, _, o, es, ep, h1, h2, _⟩ := (show ObjOk X.prog X.w H s.heap a (.dT kvs) from I.hok a _ ea)
    exact PySem.W.kia_one PySem.W.kitx_dict I.kIn ⟨o, h1, h2.1⟩ e (fun z => nomatch z) h
  | @ins a C dx fs ea cl ha hn htk hm =>
    cases (show u = Value.ref a from rx)
    obtain ⟨mA, O, _⟩ := ins_get I.hok ea
    obtain ⟨od, J, _⟩ := O.look
    exact PySem.W.kia_one (PySem.W.kitx_own (cl.get _) cl.hd ha hn htk hm) I.kIn J e (fun z => nomatch z) h
end
end L2

namespace L2
open PySem PySem.Spec PyProof.Rows

/-! ### room -/
structure Room (k : Nat) (A : Around) : Prop where
  hd : A.handled = none
  dp : A.depth + 3 * k + 5 < recursionLimit
  un : A.units + 16 * k + 200 < cLine
theorem Room.mono {j k : Nat} {A : Around} (r : Room k A) (h : j ≤ k) : Room j A := ⟨r.hd, by have := r.dp; omega, by have := r.un; omega⟩
theorem Room.deeper {k : Nat} {A : Around} (r : Room (k + 1) A) (env : Env) : Room k (A.deeper env) :=
  ⟨r.hd, by have := r.dp; show A.depth + 1 + 3 * k + 5 < _; omega, by have := r.un; show A.units + 3 + 16 * k + 200 < _; omega⟩
theorem Room.depth {k : Nat} {A : Around} (r : Room k A) : A.depth < recursionLimit := by have := r.dp; omega
theorem Room.units {k : Nat} {A : Around} (r : Room k A) : A.units + 64 < cLine := by have := r.un; omega

/-! ### argument lists and displays -/
noncomputable def tNil : TA := fun _ H Q => Q [] H
noncomputable def tCons (ta : TE) (tr : TA) : TA := fun σ H Q => ta σ H fun x H1 => tr σ H1 fun xs H2 => Q (x :: xs) H2
section
variable {X : Cx} {e : Expr} {es : List Expr} {te : TE} {t : TA} {pos : Pos}
theorem pa_nil : PA X [] tNil := fun _ _ _ _ H Q I h => Calls.spliced_nil ⟨[], H, I, .nil, h⟩
theorem pa_cons (ha : PE X e te) (hr : PA X es t) (hs : starEach (e :: es) X.env = (false, eval e X.env) :: starEach es X.env := by rfl) : PA X (e :: es) (tCons te t) := by
  intro pos pins s σ H Q I h
  rw [hs]
  show wpAny _ _ (spliced ((false, eval e X.env) :: backTo pos (starEach es X.env))) _ _ s
  refine Calls.spliced_cons (thn (ha pins s σ H _ I h) fun u s1 ⟨x, H1, I1, r1, q1⟩ => ?_)
  exact thn (hr pos pins s1 σ H1 _ I1 q1) fun us s2 ⟨xs, H2, I2, r2, q2⟩ => ⟨x :: xs, H2, I2, .cons r1 r2, q2⟩

/-- a tuple, a list of written items -/
noncomputable def tTup (t : TA) : TE := fun σ H Q => t σ H fun xs H1 => xs.length ≤ sizeLine ∧ ∀ p, H1 p = none → Q (.ref p) (upd H1 p (.tup xs))
noncomputable def tLst (t : TA) : TE := fun σ H Q => t σ H fun xs H1 => xs.length ≤ sizeLine ∧ ∀ p, H1 p = none → Q (.ref p) (upd H1 p (.lst xs))
theorem pe_tup {x1} (h : PA X es t) : PE X (.Tuple es x1 pos) (tTup t) := by
  intro pins s σ H Q I hq
  refine wpAny_Tuple_spliced (thn (h pos pins s σ H _ I hq) fun us s1 ⟨xs, H1, I1, r, z, q⟩ => ⟨by rw [← r.length]; exact z, ?_⟩)
  have hf : H1 s1.heap.objs.size = none := I1.hok.fresh (Nat.le_refl _)
  refine ⟨.ref s1.heap.objs.size, upd H1 s1.heap.objs.size (.tup xs), I1.laid (t' := s1.toks) (fun b u e => Heap.get?_push_of_some _ e) (Nat.le_refl _) ?_, rfl, q _ hf⟩
  exact ⟨z, us, r, ⟨_, Heap.get?_push_size _ rfl, rfl, _, rfl⟩⟩
theorem pe_lst (h : PA X es t) : PE X (.List es pos) (tLst t) := by
  intro pins s σ H Q I hq
  refine wpAny_List_spliced (thn (h pos pins s σ H _ I hq) fun us s1 ⟨xs, H1, I1, r, z, q⟩ => ⟨by rw [← r.length]; exact z, ?_⟩)
  have hf : H1 s1.heap.objs.size = none := I1.hok.fresh (Nat.le_refl _)
  refine ⟨.ref s1.heap.objs.size, upd H1 s1.heap.objs.size (.lst xs), I1.laid (t' := s1.toks) (fun b u e => Heap.get?_push_of_some _ e) (Nat.le_refl _) ?_, rfl, q _ hf⟩
  exact ⟨z, us, 0, r, Heap.get?_push_size _ rfl⟩
end

/-! ### what a def promises -/
/-- a def's promise: the bound arguments in the parameters' order, the heap, the wanted end, the wanted exception -/
noncomputable abbrev Sp := List V → Hp → VK → XK → Prop
/-- how an exception lies behind a call (file 08 gives it): the callers' frames, abstract heap and state ahead of the call, the wish, the exception, the state -/
noncomputable abbrev CXT := List Env → Hp → Shared → XK → Value → Shared → Prop

/-- the state at a call -/
structure Env0 (P : Program) (w : World) (K : PySem.W.Frag) (mg : Str → Option Value) (base : Heap) (A : Around) (outer : List Env) (s : Shared) (H : Hp) : Prop where
  frames : A.frames = some outer
  mod : Mod K mg base
  bs : ∀ b o, base.get? b = some o → s.heap.get? b = some o ∧ H b = none
  bsz : base.objs.size ≤ s.heap.objs.size
  funs : s.heap.FunFrames base outer
  frf : ∀ b ∈ frs outer, H b = none
  hok : HOk P w H s.heap
  bare : AllBare s.gens
/-- a call's end -/
noncomputable def CE (outer : List Env) (P : Program) (w : World) (H : Hp) (s : Shared) (Q : VK) (u : Value) (s' : Shared) : Prop :=
  ∃ v H', s'.os = s.os ∧ AllBare s'.gens ∧ Un (frs outer) [] H H' s.heap s'.heap ∧ HOk P w H' s'.heap ∧ RelV v u ∧ Q v H'
noncomputable def CR (CX : CXT) (outer : List Env) (P : Program) (w : World) (H : Hp) (s : Shared) (Q : VK) (E : XK) (r : Result) (s' : Shared) : Prop :=
  match r with
  | .ok (.ret u) => CE outer P w H s Q u s'
  | .ok _ => False
  | .error e => CX outer H s E e s'
structure FnOk (P : Program) (w : World) (K : PySem.W.Frag) (mg : Str → Option Value) (base : Heap) (CX : CXT) (k : Nat) (f : Addr) (fd : FuncData) (ps : List Str) (sp : Sp) : Prop where
  len : ∀ vs H Q E, sp vs H Q E → vs.length = ps.length
  run : ∀ (A : Around) (outer : List Env) (s : Shared) (H : Hp) (args : Args) (us : List Value) (vs : List V) (Q : VK) (E : XK), Room k A → Env0 P w K mg base A outer s H → BindsTo s fd args (ps.zip us) → Vals vs us → sp vs H Q E →
    codeAny (model P w) A (.call (.ref f) args) (CR CX outer P w H s Q E) s
theorem FnOk.mono {P : Program} {w : World} {K : PySem.W.Frag} {mg : Str → Option Value} {base : Heap} {CX : CXT} {j k : Nat} {f : Addr} {fd : FuncData} {ps : List Str} {sp : Sp} (F : FnOk P w K mg base CX j f fd ps sp) (h : j ≤ k) :
    FnOk P w K mg base CX k f fd ps sp := ⟨F.len, fun A outer s H args us vs Q E hr => F.run A outer s H args us vs Q E (hr.mono h)⟩
/-- a weaker promise -/
theorem FnOk.imp {P : Program} {w : World} {K : PySem.W.Frag} {mg : Str → Option Value} {base : Heap} {CX : CXT} {k : Nat} {f : Addr} {fd : FuncData} {ps : List Str} {sp sp' : Sp} (F : FnOk P w K mg base CX k f fd ps sp)
    (h : ∀ vs H Q E, sp' vs H Q E → sp vs H Q E) : FnOk P w K mg base CX k f fd ps sp' :=
  ⟨fun vs H Q E q => F.len vs H Q E (h _ _ _ _ q), fun A outer s H args us vs Q E hr he hb hv hs => F.run A outer s H args us vs Q E hr he hb hv (h _ _ _ _ hs)⟩


section
variable {X : Cx} {pins : List (Addr × Obj)} {σ : St} {H : Hp} {s s' : Shared}
/-- from a body: what a callee wants -/
theorem Inv.env0 (I : Inv X pins σ H s) : Env0 X.prog X.w X.K X.mg X.base X.A X.stack s H :=
  ⟨I.ok.frames, I.ok.mod, I.bs, Nat.le_trans I.ok.bsz I.sz, I.stack, I.stkFree, I.hok, I.bare⟩
/-- behind a call -/
theorem Inv.after {Q : VK} {u : Value} (I : Inv X pins σ H s) (h : CE X.stack X.prog X.w H s Q u s') : EP X pins σ Q u s' := by
  obtain ⟨v, H', os, bare, un, hok, r, q⟩ := h
  obtain ⟨hh, g, d, t, os'⟩ := s'
  obtain rfl : os' = s.os := os
  exact ⟨v, H', I.call (h' := hh) (g' := g) (d' := d) (t' := t) (ch := []) un hok bare (fun b z => absurd z (by simp)), r, q⟩
end

/-! ### calls -/
/-- f(..): the written arguments, then the defaults dvs; E: what is wanted of an exception -/
noncomputable def tCall (sp : Sp) (dvs : List V) (E : XK) (t : TA) : TE := fun σ H Q => t σ H fun vs H1 => sp (vs ++ dvs) H1 Q E

/-- how the parameters are bound: us the positional arguments, kw the keywords' values by name, ds the defaults that fill up -/
noncomputable def Binds (K : PySem.W.Frag) (fd : FuncData) (ps : List Str) (ds : List Value) : Prop :=
  ∀ (s : Shared) (us : List Value), K.In s.heap → (us ++ ds).length = ps.length → BindsTo s fd ⟨us, []⟩ (ps.zip (us ++ ds))
/-- every parameter is given -/
theorem Binds.all {K : PySem.W.Frag} {fd : FuncData} {ps : List Str} (h : ∀ us : List Value, us.length = ps.length → bindArgs fd ⟨us, []⟩ = pure (ps.zip us)) : Binds K fd ps [] := fun s us _ hl => by
  rw [List.append_nil] at hl ⊢
  exact .of_eq (h us hl)

/-- an exception of a callee reaches what this body wants of exceptions -/
noncomputable def Passes (CX : CXT) (X : Cx) (E : XK) : Prop := ∀ (pins : List (Addr × Obj)) (σ : St) (H : Hp) (s : Shared) (e : Value) (s' : Shared), Inv X pins σ H s → CX X.stack H s E e s' → X.xe e s'

section
variable {X : Cx} {CX : CXT} {k : Nat} {f C : Addr} {fd : FuncData} {ps : List Str} {sp : Sp} {dvs : List V} {ds : List Value} {E : XK} {x m : Str} {p pos apos : Pos} {e o : Expr} {es : List Expr} {ta : TE} {t : TA}

/-- the callee runs -/
theorem run_fn {pins : List (Addr × Obj)} {σ : St} {H : Hp} {s : Shared} {Q : VK} {us : List Value} {vs : List V} (F : FnOk X.prog X.w X.K X.mg X.base CX k f fd ps sp) (hr : Room k X.A) (hb : Binds X.K fd ps ds) (hd : Vals dvs ds) (hx : Passes CX X E)
    (I : Inv X pins σ H s) (r : Vals vs us) (h : sp (vs ++ dvs) H Q E) : wpAny (model X.prog X.w) X.A (call (.ref f) us) (EP X pins σ Q) X.xe s := by
  have r2 : Vals (vs ++ dvs) (us ++ ds) := r.append hd
  have hl : (us ++ ds).length = ps.length := by rw [← r2.length]; exact F.len _ _ _ _ h
  refine wpAny_call (codeAny_mono (F.run X.A X.stack s H ⟨us, []⟩ (us ++ ds) (vs ++ dvs) Q E hr I.env0 (hb s us I.kIn hl) r2 h) fun r s' hq => ?_)
  cases r with
  | error e => exact hx pins σ H s e s' I hq
  | ok fl =>
    cases fl with
    | ret u => exact I.after hq
    | next => exact False.elim hq
    | brk => exact False.elim hq
    | cont => exact False.elim hq

theorem pe_call (F : FnOk X.prog X.w X.K X.mg X.base CX k f fd ps sp) (hr : Room k X.A) (hg : Gl X x) (hm : X.mg x = some (.ref f)) (hk : PySem.W.keepIn X.K (.ref f) = true) (hb : Binds X.K fd ps ds) (hd : Vals dvs ds) (hx : Passes CX X E)
    (ha : PA X (e :: es) t) (hdb : (x == ("__debug__" : Str)) = false := by decide) (he : starEach (e :: es) X.env = (false, eval e X.env) :: starEach es X.env := by rfl) (hpl : (backTo pos (starEach es X.env)).any (·.1) = false := by rfl) :
    PE X (.Call (.Name x p) (e :: es) [] pos) (tCall sp dvs E t) := by
  intro pins s σ H Q I h
  refine wpAny_Call_Name_kw (ld_glob I hg hm ?_ hdb)
  refine PySem.W.callWith_K (h₀ := X.base) I.ok.mod.kin hk (thn (ha pos pins s σ H _ I h) fun us s1 ⟨vs, H1, I1, r, q⟩ => ⟨I1.kIn, ?_⟩) he hpl
  exact run_fn F hr hb hd hx I1 r q



end

/-! ### keywords -/
section
variable {X : Cx} {CX : CXT} {k : Nat} {f C : Addr} {fd : FuncData} {ps ks : List Str} {sp : Sp} {E : XK} {x m : Str} {p pos apos kpos : Pos} {e o : Expr} {es : List Expr} {kws : List Keyword} {te ta : TE} {t tk : TA} {nm : Option Str}

variable {g : List Value → List Value → List Value} {gV : List V → List V → List V}
end

/-! ### a def's body keeps its promise -/
/-- names: the parameters first -/
structure FnScope (N P : List Str) (sc : Scope) : Prop where
  kind : sc.kind = .function
  co : sc.isCoroutine = false
  gen : sc.isGenerator = false
  nd : N.Nodup
  pre : N.take P.length = P
  par : ∀ x ∈ P, sc.names.lookup x = some .local ∨ sc.names.lookup x = some .cell
  nofree : ∀ y ∈ sc.names, y.2 ≠ .free

theorem bindL_out {kindOf : Str → Option NameKind} {x : Str} : ∀ {binds : List (Str × Value)} {m : Str → Option Value}, (∀ v, (x, v) ∉ binds) → bindL kindOf binds m x = m x
  | [], _, _ => rfl
  | (n, v) :: r, m, h => by
    unfold bindL
    rw [bindL_out fun w hw => h w (List.mem_cons_of_mem _ hw)]
    split
    · have : x ≠ n := by rintro rfl; exact h v List.mem_cons_self
      simp [this]
    · rfl
theorem bindC_out {kindOf : Str → Option NameKind} {x : Str} : ∀ {binds : List (Str × Value)} {m : Str → Option Value}, (∀ v, (x, v) ∉ binds) → bindC kindOf binds m x = m x
  | [], _, _ => rfl
  | (n, v) :: r, m, h => by
    unfold bindC
    rw [bindC_out fun w hw => h w (List.mem_cons_of_mem _ hw)]
    split
    · rfl
    · have : x ≠ n := by rintro rfl; exact h v List.mem_cons_self
      simp [this]
theorem bindL_get {kindOf : Str → Option NameKind} {x : Str} {v : Value} : ∀ {P : List Str} {vs : List Value} {i : Nat} {m : Str → Option Value}, P.Nodup → P[i]? = some x → vs[i]? = some v → kindOf x = some .local →
    bindL kindOf (P.zip vs) m x = some v
  | [], _, _, _, _, h, _, _ => by simp at h
  | _ :: _, [], _, _, _, _, h, _ => by simp at h
  | p :: P, w :: vs, 0, m, nd, h1, h2, hk => by
    simp at h1 h2; subst h1; subst h2
    show bindL kindOf ((p, w) :: P.zip vs) m p = _
    unfold bindL
    rw [bindL_out fun v hv => (List.nodup_cons.mp nd).1 (List.of_mem_zip hv).1, if_pos hk]
    simp
  | p :: P, w :: vs, i + 1, m, nd, h1, h2, hk => by
    show bindL kindOf ((p, w) :: P.zip vs) m x = _
    unfold bindL
    exact bindL_get (i := i) (List.nodup_cons.mp nd).2 (by simpa using h1) (by simpa using h2) hk
theorem bindC_get {kindOf : Str → Option NameKind} {x : Str} {v : Value} : ∀ {P : List Str} {vs : List Value} {i : Nat} {m : Str → Option Value}, P.Nodup → P[i]? = some x → vs[i]? = some v → kindOf x ≠ some .local →
    bindC kindOf (P.zip vs) m x = some v
  | [], _, _, _, _, h, _, _ => by simp at h
  | _ :: _, [], _, _, _, _, h, _ => by simp at h
  | p :: P, w :: vs, 0, m, nd, h1, h2, hk => by
    simp at h1 h2; subst h1; subst h2
    show bindC kindOf ((p, w) :: P.zip vs) m p = _
    unfold bindC
    rw [bindC_out fun v hv => (List.nodup_cons.mp nd).1 (List.of_mem_zip hv).1, if_neg hk]
    simp
  | p :: P, w :: vs, i + 1, m, nd, h1, h2, hk => by
    show bindC kindOf ((p, w) :: P.zip vs) m x = _
    unfold bindC
    exact bindC_get (i := i) (List.nodup_cons.mp nd).2 (by simpa using h1) (by simpa using h2) hk

/-- the names' values at the entry -/
noncomputable def start (N : List Str) (vs : List V) : St := vs.map some ++ List.replicate (N.length - vs.length) none

/-- the context of a def's body, at its entry; an exception leaves the frame, then lies as CX says -/
noncomputable def cxOf (CX : CXT) (P : Program) (w : World) (K : PySem.W.Frag) (mg : Str → Option Value) (base : Heap) (N : List Str) (qual : Str) (scope : Scope) (f : Addr) (cd : Value) (A : Around) (outer : List Env) (s : Shared) (H : Hp) (E : XK) : Cx where
  prog := P
  w := w
  K := K
  mg := mg
  base := base
  A := A.deeper (envOfC qual scope s.heap.objs.size f cd)
  N := N
  s₀ := s
  H₀ := H
  env := envOfC qual scope s.heap.objs.size f cd
  outer := outer
  stack := envOfC qual scope s.heap.objs.size f cd :: outer
  ex := []
  calm := true
  fn := fun _ => true
  pn := []
  xe := fun e s' => wpAny (model P w) (A.deeper (envOfC qual scope s.heap.objs.size f cd)) (leaving (envOfC qual scope s.heap.objs.size f cd) e) (fun _ s'' => CX outer H s E e s'') (fun e' s'' => CX outer H s E e' s'') s'

theorem cell_has {sc : Scope} {n : Nat} {x : Str} (h : sc.names.lookup x = some .cell) : ∃ c, (cellsFrom n sc.names []).lookup x = some c := by
  have q := PySem.W.cellsFrom_some sc.names n [] (.inl h)
  exact Option.isSome_iff_exists.mp q

theorem inv_start {CX : CXT} {P : Program} {w : World} {K : PySem.W.Frag} {mg : Str → Option Value} {base : Heap} {N ps : List Str} {qual : Str} {scope : Scope} {f : Addr} {cd : Value} {A : Around} {outer : List Env} {s s1 : Shared} {H : Hp} {E : XK} {us : List Value} {vs : List V}
    (S : FnScope N ps scope) (hd : A.handled = none) (e0 : Env0 P w K mg base A outer s H) (hl : vs.length = ps.length) (r : Vals vs us)
    (x : InCallC s s.heap.objs.size (bindL (envOfC qual scope s.heap.objs.size f cd).kindOf (ps.zip us) fun _ => none) (cellsFrom (s.heap.objs.size + 1) scope.names []) (bindC (envOfC qual scope s.heap.objs.size f cd).kindOf (ps.zip us) fun _ => none) s1) :
    Inv (cxOf CX P w K mg base N qual scope f cd A outer s H E) [] (start N vs) H s1 := by
  have hpl : ps.length ≤ N.length := by have := congrArg List.length S.pre; rw [List.length_take] at this; omega
  obtain ⟨h1, tk, rfl, hk⟩ := x.done
  have noA : ∀ b : Addr, b ∉ (cxOf CX P w K mg base N qual scope f cd A outer s H E).ex := fun b z => absurd (show b ∈ ([] : List Addr) from z) (by simp)
  refine ⟨⟨e0.mod, S.kind, rfl, rfl, Nat.le_refl _, fun y z c h1 h2 => ?_, fun y hy => ?_, fun y c _ h => ?_, fun _ => hd, Around.frames_deeper e0.frames, .inr ⟨rfl, rfl⟩, fun b z => absurd z (noA b), e0.bs, e0.bsz, fun b _ _ => noA b, fun b z => absurd z (noA b), e0.funs, e0.frf⟩,
    rfl, e0.bare, Un.kept hk, ⟨_, x.toInCall.ns, fun i y v h1 h2 h3 => ?_⟩, fun y c h => ⟨_, x.cell y c h⟩, e0.hok.fresh (Nat.le_refl _), fun y c h => ?_, fun p hp => absurd (show p ∈ ([] : List (Addr × Obj)) from hp) (by simp), e0.hok.kept hk, ?_⟩
  · exact name_of_addr x.apart (PySem.mem_of_lookup h1) (PySem.mem_of_lookup h2)
  · have hy : scope.names.lookup y = some .cell ∨ scope.names.lookup y = some .free := hy
    rcases hy with hy | hy
    · exact cell_has hy
    · exact absurd rfl (S.nofree _ (PySem.mem_of_lookup hy))
  · exact Nat.le_of_lt (x.above y c (PySem.mem_of_lookup h))
  · have hi : i < vs.length := by
      unfold start at h2
      by_cases hi : i < vs.length
      · exact hi
      · rw [List.getElem?_append_right (by simpa using hi)] at h2
        rw [List.getElem?_replicate] at h2
        split at h2 <;> cases h2
    have ha : vs[i]? = some v := by
      unfold start at h2
      rw [List.getElem?_append_left (by simpa using hi), List.getElem?_map] at h2
      cases e : vs[i]? with
      | none => rw [e] at h2; cases h2
      | some a => rw [e] at h2; cases h2; rfl
    obtain ⟨u, hu, rv⟩ := r.get ha
    have hp : ps[i]? = some y := by
      rw [← S.pre, List.getElem?_take_of_lt (by omega)]; exact h1
    have ndP : ps.Nodup := by rw [← S.pre]; exact S.nd.sublist (List.take_sublist _ _)
    refine ⟨u, rv, ?_⟩
    rcases S.par y (List.mem_of_getElem? hp) with k | k
    · exact .inl ⟨k, bindL_get ndP hp hu k⟩
    · obtain ⟨c, e⟩ := cell_has (n := s.heap.objs.size + 1) k
      refine .inr ⟨.inl k, c, e, ?_⟩
      have q := x.cell y c e
      rw [bindC_get ndP hp hu (by show scope.names.lookup y ≠ _; rw [k]; decide)] at q
      exact q
  · exact e0.hok.fresh (Nat.le_of_lt (x.above y c (PySem.mem_of_lookup h)))
  · unfold start
    show _ = N.length
    rw [List.length_append, List.length_map, List.length_replicate]
    omega

/-- THE RULE: a def (or a method) of the text, by its body. The body's reading t is chosen for each entry; it is run at the parameters' values -/
theorem fn_of {CX : CXT} {P : Program} {w : World} {K : PySem.W.Frag} {mg : Str → Option Value} {base : Heap} {k : Nat} {f : Addr} {name qual : Str} {params : Arguments} {body : List Stmt} {scope : Scope} {dV kV doc pm cdv ct oc : Value} {an od : Option Addr}
    {osl : Array (Option Value)} {N ps : List Str} {sp : Sp} (lk : K.lookup f = some ⟨oc, od, .func (PySem.W.fnOf name qual params body scope dV kV doc pm an cdv ct), osl⟩) (hcd : PySem.W.codeIn K cdv qual = true) (S : FnScope N ps scope)
    (len : ∀ vs H Q E, sp vs H Q E → vs.length = ps.length)
    (hbody : ∀ (A : Around) (outer : List Env) (s : Shared) (H : Hp) (vs : List V) (Q : VK) (E : XK), Room k (A.deeper (envOfC qual scope s.heap.objs.size f cdv)) → sp vs H Q E →
      ∃ t, PSs (cxOf CX P w K mg base N qual scope f cdv A outer s H E) body t ∧ t { nx := fun _ H' => Q .non H', rt := Q } (start N vs) H) :
    FnOk P w K mg base CX (k + 1) f (PySem.W.fnOf name qual params body scope dV kV doc pm an cdv ct) ps sp := by
  refine ⟨len, fun A outer s H args us vs Q E hr e0 hb r hsp => ?_⟩
  have hl := len _ _ _ _ hsp
  have KX : K.In s.heap := e0.mod.kin.keeps fun b o e => (e0.bs b o e).1
  have lim : s.heap.NoLimit := e0.mod.nolimit.keeps fun b o e => (e0.bs b o e).1
  have hkind : ∀ y ∈ ps.zip us, scope.names.lookup y.1 = some .local ∨ (scope.names.lookup y.1 = some .cell ∧ ((cellsFrom (s.heap.objs.size + 1) scope.names []).lookup y.1).isSome = true) := fun ⟨n, v⟩ hy => by
    rcases S.par n (List.of_mem_zip hy).1 with q | q
    · exact .inl q
    · exact .inr ⟨q, PySem.W.cellsFrom_some _ _ _ (.inl q)⟩
  refine codeAny_call_function hr.depth (KX _ _ lk) rfl S.co S.gen rfl (PySem.W.codeRec_of KX hcd) (hb _ _ _ _ ?_)
  refine wpAny_newFunctionEnv_cells S.kind hkind fun env he s1 x => ?_
  subst he
  refine ⟨lim.keeps x.toInCall.keep, codeAny_func ?_⟩
  obtain ⟨t, ht, hq⟩ := hbody A outer s H vs Q E (hr.deeper _) hsp
  have I : Inv (cxOf CX P w K mg base N qual scope f cdv A outer s H E) [] (start N vs) H s1 := inv_start S hr.hd e0 hl r x
  refine wpAny_mono (ht [] s1 (start N vs) H _ I hq) (fun fl s' hs => ?_) fun e s' hs => hs
  have fin : ∀ {σ' : St} {H' : Hp} {v : V} {u : Value}, Inv (cxOf CX P w K mg base N qual scope f cdv A outer s H E) [] σ' H' s' → RelV v u → Q v H' → CE outer P w H s Q u s' :=
    fun {σ' H' v u} J rv q => ⟨v, H', J.os, J.bare, J.base, J.hok, rv, q⟩
  cases fl with
  | ret u =>
    obtain ⟨v, σ', H', J, rv, q⟩ := hs
    exact fin J rv q
  | next =>
    obtain ⟨σ', H', J, q⟩ := hs
    exact fin (v := V.non) (u := Value.none) J rfl q
  | brk =>
    obtain ⟨_, _, _, q⟩ := hs
    exact False.elim q
  | cont =>
    obtain ⟨_, _, _, q⟩ := hs
    exact False.elim q
end L2

namespace L2
open PySem PySem.Spec PyProof.Rows
section
variable {X : Cx} {x : Str} {p pos : Pos} {e : Expr} {es : List Expr} {t : TA} {id T : String} {r : List V → Hp → VK → Prop}

noncomputable def tCB (r : List V → Hp → VK → Prop) (t : TA) : TE := fun σ H Q => t σ H fun vs H1 => r vs H1 Q
/-- f(e, ..), f a built-in function -/
theorem pe_callB (hc : CallR X (.builtin id) r) (hg : Gl X x) (hm : X.mg x = none) (hv : bootBuiltins x = some (.builtin id)) (ha : PA X (e :: es) t) (hn : x ≠ "__name__" := by decide) (hdb : (x == ("__debug__" : Str)) = false := by decide)
    (he : starEach (e :: es) X.env = (false, eval e X.env) :: starEach es X.env := by rfl) (hpl : (backTo pos (starEach es X.env)).any (·.1) = false := by rfl) : PE X (.Call (.Name x p) (e :: es) [] pos) (tCB r t) := by
  intro pins s σ H Q I h
  refine wpAny_Call_Name_kw (ld_blt I hg hm hv ?_ hn hdb)
  exact PyProof.Rows.callWith_builtin1 (thn (ha pos pins s σ H _ I h) fun us s1 ⟨vs, H1, I1, r1, q1⟩ => hc pins s1 σ H1 vs us Q I1 r1 q1) he hpl
/-- T(e, ..), T a built-in type -/
theorem pe_callTy (hc : CallR X (.type T) r) (hg : Gl X x) (hm : X.mg x = none) (hv : bootBuiltins x = some (.type T)) (ha : PA X (e :: es) t) (hn : x ≠ "__name__" := by decide) (hdb : (x == ("__debug__" : Str)) = false := by decide)
    (he : starEach (e :: es) X.env = (false, eval e X.env) :: starEach es X.env := by rfl) (hpl : (backTo pos (starEach es X.env)).any (·.1) = false := by rfl) : PE X (.Call (.Name x p) (e :: es) [] pos) (tCB r t) := by
  intro pins s σ H Q I h
  refine wpAny_Call_Name_kw (ld_blt I hg hm hv ?_ hn hdb)
  exact PyProof.Rows.callWith_type1 (thn (ha pos pins s σ H _ I h) fun us s1 ⟨vs, H1, I1, r1, q1⟩ => hc pins s1 σ H1 vs us Q I1 r1 q1) he hpl
end
end L2

namespace HT
open PySem PyProof.Rows



section
open PySem.SeqAt
open PySem.AutoSeq1 (wpAny_loadPart')
open PySem.MeetsSeq PySem.MeetsSeq2 PySem.MeetsSeq3

end

section
variable {prog : Program} {w : World} {A : Around} {E : Value → Shared → Prop} {s : Shared}


/-- t + u, t not empty -/
theorem cat_tup {t b : Addr} {vs ws : List Value} {Q : Value → Shared → Prop} (ht : IsTup s.heap t vs.toArray) (hb : IsTup s.heap b ws.toArray) (hv : vs ≠ [])
    (h1 : ws = [] → Q (.ref t) s) (h2 : ws ≠ [] → Q (.ref s.heap.objs.size) { s with heap := s.heap.push { cls := .type "tuple", data := .seq (vs ++ ws).toArray } })
    (hsz : vs.length + ws.length ≤ sizeLine) : wpAny (model prog w) A (binaryOp .Add (.ref t) (.ref b)) Q E s := by
  obtain ⟨⟨cls, dd, data, sl⟩, ho, hc, n, hd⟩ := id ht
  obtain ⟨⟨cls2, dd2, data2, sl2⟩, ho2, hc2, n2, hd2⟩ := id hb
  simp only at hc hd hc2 hd2
  subst hc hd hc2 hd2
  have e : vs.toArray ++ ws.toArray = (vs ++ ws).toArray := by simp
  by_cases hw : ws = []
  · exact concat_meets ⟨_, ho, rfl⟩ ⟨_, ho2, rfl⟩ noFill_tuple_add seq_tuple_add PySem.F.slot_tuple_add PySem.F.entry_tuple_add (PySem.F.args_tuple_add_2 _ _)
      (tuple_addW1 t b vs.toArray ws.toArray n n2 dd dd2 sl sl2 (by simpa using hv) (by simp [hw])) ⟨ho, ho2, h1 hw⟩
  · refine concat_meets ⟨_, ho, rfl⟩ ⟨_, ho2, rfl⟩ noFill_tuple_add seq_tuple_add PySem.F.slot_tuple_add PySem.F.entry_tuple_add (PySem.F.args_tuple_add_2 _ _)
      (tuple_addW2 t b vs.toArray ws.toArray n n2 dd dd2 sl sl2 (by simpa using hv) (by simpa using hw) (by rw [List.size_toArray, List.size_toArray]; exact hsz)) ⟨ho, ho2, ?_⟩
    rw [e]
    exact h2 hw

/-! ### t[a:b], not the whole -/
/-- a slice's bound as a place among n (d where it is left out) -/
noncomputable def sIx (n d : Nat) : Option Int → Nat
  | none => d
  | some v => if v < 0 then (v + (n : Int)).toNat else min v.toNat n
theorem sIx_le (n d : Nat) (hd : d ≤ n) (o : Option Int) : sIx n d o ≤ n := by
  cases o with
  | none => exact hd
  | some v =>
    show (if v < 0 then (v + (n : Int)).toNat else min v.toNat n) ≤ n
    by_cases hv : v < 0
    · rw [if_pos hv]; omega
    · rw [if_neg hv]; exact Nat.min_le_right _ _
theorem clip_eq (v : Int) (n d : Nat) : (if v < 0 then max (v + (n : Int)) 0 else min v (n : Int)) = ((sIx n d (some v) : Nat) : Int) := by
  show (if v < 0 then max (v + (n : Int)) 0 else min v (n : Int)) = (((if v < 0 then (v + (n : Int)).toNat else min v.toNat n) : Nat) : Int)
  by_cases hv : v < 0
  · simp only [if_pos hv]; omega
  · simp only [if_neg hv]; omega
theorem adjust_gen (lo hi : Option Int) (n : Nat) : Builtin.Slice.sliceAdjust lo hi 1 (n : Int) = (((sIx n 0 lo : Nat) : Int), ((sIx n n hi : Nat) : Int)) := by
  have h1 : ¬ ((1 : Int) < 0) := by omega
  unfold Builtin.Slice.sliceAdjust
  simp only [h1, if_false]
  refine Prod.ext ?_ ?_
  · cases lo with
    | none => rfl
    | some v => exact clip_eq v n 0
  · cases hi with
    | none => rfl
    | some v => exact clip_eq v n n
theorem places_gen (i j : Nat) : Builtin.Slice.slicePlaces (i : Int) (j : Int) 1 = j - i := by
  unfold Builtin.Slice.slicePlaces
  have h1 : (1 : Int) > 0 := by omega
  simp only [h1, if_true, Int.ediv_one]
  split <;> omega
theorem slicePart_ {v : Value} {o : Option Int} {Q : Option Int → Shared → Prop} (p : IsPart v o) (h : Q o s) : wpAny (model prog w) A (Builtin.Slice.slicePartIndex v) Q E s := by
  cases p with
  | none => exact slicePart_none h
  | int i t => exact slicePart_int h
theorem sliceApplied_gen {sl : Addr} {vl vu : Value} {lo hi : Option Int} {n : Nat} {Q : Int × Int × Nat → Shared → Prop} (hs : s.heap.IsSliceOf sl vl vu .none) (pl : IsPart vl lo) (pu : IsPart vu hi)
    (h : Q (((sIx n 0 lo : Nat) : Int), 1, sIx n n hi - sIx n 0 lo) s) : wpAny (model prog w) A (Builtin.Slice.sliceApplied (.ref sl) (pure (n : Int))) Q E s := by
  obtain ⟨os, hos, hcs, hds⟩ := id hs
  unfold Builtin.Slice.sliceApplied Builtin.Slice.sliceFields
  refine wpAny_bind (wpAny_bind (wpAny_field hos hds (x := vl) rfl (wpAny_bind (wpAny_field hos hds (x := vu) rfl (wpAny_bind (wpAny_field hos hds (x := .none) rfl (wpAny_pure ?_)))))))
  refine wpAny_bind (slicePart_none ?_)
  show wpAny _ _ (if ((1 : Int) == 0) = true then _ else _) _ _ s
  rw [if_neg (by decide)]
  refine wpAny_bind (slicePart_ pl (wpAny_bind (slicePart_ pu (wpAny_bind (wpAny_pure ?_)))))
  show wpAny _ _ (match Builtin.Slice.sliceAdjust lo hi 1 (n : Int) with | (lo, hi) => pure (lo, (1 : Int), Builtin.Slice.slicePlaces lo hi 1)) _ _ s
  rw [adjust_gen lo hi n]
  show wpAny _ _ (pure (((sIx n 0 lo : Nat) : Int), (1 : Int), Builtin.Slice.slicePlaces ((sIx n 0 lo : Nat) : Int) ((sIx n n hi : Nat) : Int) 1)) _ _ s
  rw [places_gen]
  exact wpAny_pure h
theorem pick_gen (xs : Array Value) (i k : Nat) : ((List.range k).filterMap fun (m : Nat) => xs[((i : Int) + (m : Int) * 1).toNat]?).toArray = ((xs.toList.drop i).take k).toArray := by
  have e : (fun (m : Nat) => xs[((i : Int) + (m : Int) * 1).toNat]?) = fun m => xs[i + m]? := by
    funext m
    have : ((i : Int) + (m : Int) * 1).toNat = i + m := by omega
    rw [this]
  rw [e]
  have := pick_run xs i k
  rw [List.filterMap_map] at this
  have e2 : ((fun x => xs[x]?) ∘ fun x => i + x) = fun m => xs[i + m]? := rfl
  rw [e2] at this
  rw [this]

theorem getItem_tuple_cut {t sl : Addr} {items : Array Value} {vl vu : Value} {lo hi : Option Int} {Q : Value → Shared → Prop} (ht : IsTup s.heap t items) (hs : s.heap.IsSliceOf sl vl vu .none) (pl : IsPart vl lo) (pu : IsPart vu hi)
    (hw : ¬ (sIx items.size 0 lo = 0 ∧ sIx items.size items.size hi = items.size))
    (h : Q (.ref s.heap.objs.size) { s with heap := s.heap.push { cls := .type "tuple", data := .seq ((items.toList.drop (sIx items.size 0 lo)).take (sIx items.size items.size hi - sIx items.size 0 lo)).toArray } })
    (hsz : items.size ≤ sizeLine) : wpAny (model prog w) A (getItem (.ref t) (.ref sl)) Q E s := by
  have htake : sizeOk (.seq ((items.toList.drop (sIx items.size 0 lo)).take (sIx items.size items.size hi - sIx items.size 0 lo)).toArray) := by
    show ((items.toList.drop (sIx items.size 0 lo)).take (sIx items.size items.size hi - sIx items.size 0 lo)).toArray.size ≤ sizeLine
    rw [List.size_toArray, List.length_take, List.length_drop, Array.length_toList]
    omega
  have hj : sIx items.size items.size hi ≤ items.size := sIx_le _ _ (Nat.le_refl _) hi
  obtain ⟨os, hos, hcs, hds⟩ := id hs
  have hTs : s.TypeIs (.ref sl) "slice" := ⟨os, hos, hcs⟩
  unfold getItem
  try with_reducible refine wpAny_holding ?_
  first | refine wpAny_bind (wpAny_pure ?_) | skip
  refine wpAny_bind (wpAny_sequenceKey ht.typeIs (by decide) ?_)
  refine wpAny_bind (wpAny_callSpecial?_slot (name := Str.ofString "__getitem__") ht.typeIs PyProof.Rows.slot_tuple_getitem
    (wpAny_call_entry PyProof.Rows.slot_tuple_getitem ht.typeIs entry_tuple_getitem ?_ (args_tuple_getitem _ _)))
  show wpAny _ _ (Builtin.Tuple.tupleItemsOf (.ref t) >>= _) _ _ s
  refine wpAny_bind (tupleItemsOf_ ht ?_)
  refine wpAny_bind (wpAny_typeOf hTs ?_)
  rw [if_pos (by decide)]
  refine wpAny_bind (sliceApplied_gen hs pl pu ?_)
  have hno : ¬ ((((sIx items.size 0 lo : Nat) : Int) == 0 && (1 : Int) == 1 && (sIx items.size items.size hi - sIx items.size 0 lo) == items.size) = true) := by
    intro q
    rw [Bool.and_eq_true, Bool.and_eq_true] at q
    have q1 : ((sIx items.size 0 lo : Nat) : Int) = 0 := eq_of_beq q.1.1
    have q2 : sIx items.size items.size hi - sIx items.size 0 lo = items.size := eq_of_beq q.2
    exact hw ⟨by omega, by omega⟩
  show wpAny _ _ (if (((sIx items.size 0 lo : Nat) : Int) == 0 && (1 : Int) == 1 && (sIx items.size items.size hi - sIx items.size 0 lo) == items.size) = true then _ else _) _ _ s
  rw [if_neg hno, pick_gen]
  first
    | exact wpAny_bind (m := Builtin.Tuple.tupleExact _) (wpAny_newObj_type (wpAny_pure ⟨_, rfl, wpAny_pure h⟩) htake)
    | exact wpAny_bind (m := Builtin.Tuple.tupleExact _) (wpAny_newObj_type (wpAny_bind (wpAny_pure (wpAny_pure ⟨_, rfl, wpAny_pure h⟩))) htake)
    | exact wpAny_bind (wpAny_bind (m := Builtin.Tuple.tupleExact _) (wpAny_newObj_type (wpAny_pure (wpAny_pure ⟨_, rfl, wpAny_pure h⟩)) htake))
    | exact wpAny_bind (wpAny_bind (m := Builtin.Tuple.tupleExact _) (wpAny_newObj_type (wpAny_pure ⟨_, rfl, wpAny_pure h⟩) htake))
end
end HT

namespace L2
open PySem PySem.Spec PyProof.Rows

/-! ### the parts of a slice -/
noncomputable abbrev TO := St → Hp → (Option Int → Hp → Prop) → Prop
/-- a slice's part (left out, or an int) -/
noncomputable def PO (X : Cx) (e : Option Expr) (t : TO) : Prop :=
  ∀ (pins : List (Addr × Obj)) (s : Shared) (σ : St) (H : Hp) (Q : Option Int → Hp → Prop), Inv X pins σ H s → t σ H Q →
    wpAny (model X.prog X.w) X.A (evalPart e X.env) (fun u s' => ∃ o H', Inv X pins σ H' s' ∧ IsPart u o ∧ Q o H') X.xe s
noncomputable def tNoPart : TO := fun _ H Q => Q none H
noncomputable def tPart (t : TE) : TO := fun σ H Q => t σ H fun x H1 => ∃ i, x = .int i ∧ Q (some i) H1


section
variable {X : Cx} {e : Expr} {te : TE} {lo hi : Option Expr} {tl th : TO} {pos p2 : Pos}

theorem po_none : PO X none tNoPart := by
  intro pins s σ H Q I h
  rw [evalPart_none]
  exact wpAny_pure ⟨none, H, I, .none, h⟩
theorem po_some (h : PE X e te) : PO X (some e) (tPart te) := by
  intro pins s σ H Q I hw
  rw [evalPart_some]
  refine thn (h pins s σ H _ I hw) fun u s1 ⟨x, H1, I1, r1, q1⟩ => ?_
  obtain ⟨i, rfl, q⟩ := q1
  obtain ⟨t, rfl⟩ := r1
  exact ⟨some i, H1, I1, .int i t, q⟩

/-- what a slice of a value is, by values: the slice object stands at sl -/
noncomputable def SlR (X : Cx) (r : V → Option Int → Option Int → Hp → VK → Prop) : Prop :=
  ∀ (pins : List (Addr × Obj)) (s : Shared) (σ : St) (H : Hp) (x : V) (v vl vu : Value) (lo hi : Option Int) (sl : Addr) (Q : VK), Inv X pins σ H s → RelV x v → s.heap.IsSliceOf sl vl vu .none → IsPart vl lo → IsPart vu hi → r x lo hi H Q →
    ∃ T id, typeLookup (.type T) "__getitem__" = pure (some (.builtin id)) ∧ s.TypeIs v T ∧ wpAny (model X.prog X.w) X.A (getItem v (.ref sl)) (EP X pins σ Q) X.xe s
noncomputable def tSl (r : V → Option Int → Option Int → Hp → VK → Prop) (te : TE) (tl th : TO) : TE := fun σ H Q => te σ H fun x H1 => tl σ H1 fun l H2 => th σ H2 fun u H3 => r x l u H3 Q
/-- a[lo:hi], any a -/
theorem pe_slice {r : V → Option Int → Option Int → Hp → VK → Prop} (hr : SlR X r) (he : PE X e te) (hl : PO X lo tl) (hu : PO X hi th) : PE X (.Subscript e (.Slice lo hi none p2) pos) (tSl r te tl th) := by
  intro pins s σ H Q I h
  refine Subscript_ (thn (he pins s σ H _ I h) fun v s1 ⟨x, H1, I1, r1, q1⟩ => ?_)
  refine wpAny_Slice (thn (hl pins s1 σ H1 _ I1 q1) fun vl s2 ⟨l, H2, I2, pl, q2⟩ => thn (hu pins s2 σ H2 _ I2 q2) fun vu s3 ⟨u, H3, I3, pu, q3⟩ => ?_)
  rw [evalPart_none]
  refine wpAny_pure ?_
  have I4 : Inv X pins σ H3 { s3 with heap := s3.heap.push { cls := .type "slice", data := .fields #[vl, vu, .none] } } := I3.kept (t' := s3.toks) fun b ob q => Heap.get?_push_of_some _ q
  obtain ⟨T, id, hT, ht, hg⟩ := hr pins { s3 with heap := s3.heap.push { cls := .type "slice", data := .fields #[vl, vu, .none] } } σ H3 x v vl vu l u s3.heap.objs.size Q I4 r1 (Heap.IsSliceOf.new ..) pl pu q3
  show wpAny (model X.prog X.w) X.A (subscriptTail e (.Slice lo hi none p2) v (.ref s3.heap.objs.size)) (EP X pins σ Q) X.xe { s3 with heap := s3.heap.push { cls := .type "slice", data := .fields #[vl, vu, .none] } }
  exact tail_any (ops := [.ref s3.heap.objs.size, v]) ht hT hg (by with_unfolding_all rfl)

/-- the items of xs[lo:hi] -/
noncomputable def cutV (xs : List V) (lo hi : Option Int) : List V := (xs.drop (HT.sIx xs.length 0 lo)).take (HT.sIx xs.length xs.length hi - HT.sIx xs.length 0 lo)
theorem cutV_length (xs : List V) (lo hi : Option Int) : (cutV xs lo hi).length ≤ xs.length := by
  unfold cutV
  rw [List.length_take, List.length_drop]
  omega
/-- t[lo:hi], not the whole of it (the whole would be t itself) -/
noncomputable def rSlT (K : PySem.W.Frag) : V → Option Int → Option Int → Hp → VK → Prop := fun x lo hi H Q => ∃ a xs, x = .ref a ∧ SqT K H a xs ∧
  ¬ (HT.sIx xs.length 0 lo = 0 ∧ HT.sIx xs.length xs.length hi = xs.length) ∧ ∀ p, H p = none → Q (.ref p) (upd H p (.tup (cutV xs lo hi)))
theorem sl_tup : SlR X (rSlT X.K) := by
  intro pins s σ H x v vl vu lo hi sl Q I rx hs pl pu h
  obtain ⟨a, xs, rfl, hx, hw, q⟩ := h
  cases rx
  obtain ⟨its, r, ht, hz⟩ := I.tuple hx
  have hlen : its.toArray.size = xs.length := by rw [List.size_toArray]; exact r.length.symm
  refine ⟨"tuple", _, PyProof.Rows.slot_tuple_getitem.lookup, ht.typeIs, ?_⟩
  refine HT.getItem_tuple_cut ht hs pl pu (by rw [hlen]; exact hw) ?_ (by rw [hlen]; exact hz)
  rw [hlen]
  refine ⟨.ref s.heap.objs.size, _, I.laid (t' := s.toks) (o := .tup (cutV xs lo hi)) (fun b ob q => Heap.get?_push_of_some _ q) (Nat.le_refl _) ?_, rfl, q _ (I.hok.fresh (Nat.le_refl _))⟩
  exact ⟨Nat.le_trans (cutV_length xs lo hi) hz, _, (r.drop (HT.sIx xs.length 0 lo)).take (HT.sIx xs.length xs.length hi - HT.sIx xs.length 0 lo), IsTup.new _ _⟩

/-! ### t < u, t + u -/
/-- t + u, t not empty: u empty gives t itself -/
noncomputable def rCatT (K : PySem.W.Frag) : R2 := fun x y H Q => ∃ a b xs ys, x = .ref a ∧ y = .ref b ∧ SqT K H a xs ∧ SqT K H b ys ∧ xs ≠ [] ∧ xs.length + ys.length ≤ sizeLine ∧
  (ys = [] → Q (.ref a) H) ∧ (ys ≠ [] → ∀ p, H p = none → Q (.ref p) (upd H p (.tup (xs ++ ys))))
theorem Vals.nil_iff {xs : List V} {us : List Value} (r : Vals xs us) : us = [] ↔ xs = [] := by
  cases r with
  | nil => simp
  | cons _ _ => simp
theorem op_catT : OpR X (binaryOp .Add) (rCatT X.K) := by
  intro pins s σ H x y v u Q I rx ry h
  obtain ⟨a, b, xs, ys, rfl, rfl, ha, hb, hx, hz, q1, q2⟩ := h
  cases rx
  cases ry
  obtain ⟨its, r1, p1, _⟩ := I.tuple ha
  obtain ⟨its2, r2, p2, _⟩ := I.tuple hb
  refine HT.cat_tup p1 p2 (fun z => hx (r1.nil_iff.mp z)) (fun z => ⟨.ref a, H, I, rfl, q1 (r2.nil_iff.mp z)⟩) (fun z => ?_) (by rw [← r1.length, ← r2.length]; exact hz)
  refine ⟨.ref s.heap.objs.size, _, I.laid (t' := s.toks) (o := .tup (xs ++ ys)) (fun b ob q => Heap.get?_push_of_some _ q) (Nat.le_refl _) ?_, rfl, q2 (fun w => z (r2.nil_iff.mpr w)) _ (I.hok.fresh (Nat.le_refl _))⟩
  exact ⟨by rw [List.length_append]; exact hz, _, r1.append r2, IsTup.new _ _⟩
end
end L2

namespace L2
open PySem PySem.Spec PyProof.Rows

/-! ### places -/
/-- the place that an index of any sign means -/
noncomputable def ixN (n : Nat) (i : Int) : Option Nat := if 0 ≤ i then (if i < n then some i.toNat else none) else if -(n : Int) ≤ i then some (i + n).toNat else none
noncomputable def atI {α : Type} (xs : List α) (i : Int) : Option α := (ixN xs.length i).bind fun j => xs[j]?
theorem ixN_seq {n : Nat} {i : Int} {j : Nat} (h : ixN n i = some j) : seqIndex? i n = some j ∧ j < n ∧ -(n : Int) ≤ i ∧ i < n := by
  unfold ixN at h
  by_cases h0 : 0 ≤ i
  · rw [if_pos h0] at h
    by_cases h1 : i < n
    · rw [if_pos h1] at h
      have e : i.toNat = j := Option.some.inj h
      exact ⟨by rw [seqIndex_of h0 h1, e], by omega, by omega, h1⟩
    · rw [if_neg h1] at h; cases h
  · rw [if_neg h0] at h
    by_cases h1 : -(n : Int) ≤ i
    · rw [if_pos h1] at h
      have e : (i + n).toNat = j := Option.some.inj h
      exact ⟨by rw [seqIndex_neg (by omega) h1, e], by omega, h1, by omega⟩
    · rw [if_neg h1] at h; cases h
theorem atI_get {α : Type} {xs : List α} {i : Int} {v : α} (h : atI xs i = some v) : ∃ j, seqIndex? i xs.length = some j ∧ xs[j]? = some v ∧ j < xs.length ∧ -(xs.length : Int) ≤ i ∧ i < xs.length := by
  unfold atI at h
  cases e : ixN xs.length i with
  | none => rw [e] at h; cases h
  | some j =>
    rw [e] at h
    obtain ⟨h1, h2, h3, h4⟩ := ixN_seq e
    exact ⟨j, h1, h, h2, h3, h4⟩
theorem atI_nat {α : Type} {xs : List α} {j : Nat} {v : α} (h : xs[j]? = some v) : atI xs (j : Int) = some v := by
  have hj : j < xs.length := (List.getElem?_eq_some_iff.mp h).1
  have e : ixN xs.length (j : Int) = some j := by
    unfold ixN
    rw [if_pos (by omega), if_pos (by omega)]; simp
  unfold atI; rw [e]; exact h

/-! ### what may be subscripted -/
/-- what stands as an index of a plain subscript -/
noncomputable def PlainIx (b : Expr) : Prop := ∀ o i, subscripted b false o i = operate [o, i] (getItem o i)
/-- a subscript by values -/
noncomputable def IxR (X : Cx) (r : R2) : Prop :=
  ∀ (value slice : Expr) (pins : List (Addr × Obj)) (s : Shared) (σ : St) (H : Hp) (x y : V) (v u : Value) (Q : VK), Inv X pins σ H s → RelV x v → RelV y u → r x y H Q →
    subscripted slice false v u = operate [v, u] (getItem v u) → wpAny (model X.prog X.w) X.A (subscriptTail value slice v u) (EP X pins σ Q) X.xe s
/-- a call of a builtin's method by values: the receiver, the arguments -/
noncomputable def MtR (X : Cx) (id : String) (r : V → List V → Hp → VK → Prop) : Prop :=
  ∀ (pins : List (Addr × Obj)) (s : Shared) (σ : St) (H : Hp) (x : V) (xs : List V) (v : Value) (us : List Value) (Q : VK), Inv X pins σ H s → RelV x v → Vals xs us → r x xs H Q →
    wpAny (model X.prog X.w) X.A (call (.builtin id) (v :: us)) (EP X pins σ Q) X.xe s
section
variable {X : Cx} {a b : Expr} {ta tb : TE} {pos : Pos}
/-- a[b] -/
theorem pe_ix {r : R2} (hr : IxR X r) (ha : PE X a ta) (hb : PE X b tb) (hs : PlainIx b) : PE X (.Subscript a b pos) (tOp r ta tb) := by
  intro pins s σ H Q I h
  exact Subscript_ (binT ha hb I h fun v u s2 x y H2 I2 rx ry q => hr a b pins s2 σ H2 x y v u Q I2 rx ry q (hs _ _))

noncomputable def rIxL (K : PySem.W.Frag) : R2 := fun x y H Q => ∃ p xs i v, x = .ref p ∧ y = .int i ∧ SqL K H p xs ∧ atI xs i = some v ∧ Q v H
noncomputable def rIxT (K : PySem.W.Frag) : R2 := fun x y H Q => ∃ p xs i v, x = .ref p ∧ y = .int i ∧ SqT K H p xs ∧ atI xs i = some v ∧ Q v H
noncomputable def rIxS : R2 := fun x y H Q => ∃ z i c, x = .str z ∧ y = .int i ∧ z.length ≤ sizeLine ∧ atI z.cps.toList i = some c ∧ Q (.str ⟨#[c]⟩) H
theorem ix_list : IxR X (rIxL X.K) := by
  intro value slice pins s σ H x y v u Q I rx ry h hs
  obtain ⟨p, xs, i, z, rfl, rfl, hq, he, q⟩ := h
  cases rx
  obtain ⟨t, rfl⟩ := ry
  obtain ⟨its, r, pl, hz⟩ := I.list hq
  obtain ⟨j, h1, h2, h3, h4, h5⟩ := atI_get he
  obtain ⟨w, ew, rw'⟩ := r.get h2
  have hl := r.length
  have hn := line63
  have fin : EP X pins σ Q w s := ⟨z, H, I, rw', q⟩
  by_cases h0 : 0 ≤ i
  · have hj : i.toNat = j := by
      rw [seqIndex_of h0 h5] at h1
      exact Option.some.inj h1
    exact item_listR pl.isList h0 (by omega) (by rw [hj]; simpa using ew) fin hs
  · have hj : (i + (its.toArray.size : Int)).toNat = j := by
      rw [seqIndex_neg (by omega) h4] at h1
      rw [List.size_toArray, ← hl]
      exact Option.some.inj h1
    exact subscriptTail_builtinR (x := w) pl.isList.typeIs slot_list_getitem.lookup
      (wpAny_getItem_list_neg (Q := fun r s' => r = w ∧ EP X pins σ Q r s') pl.isList (by omega) (by rw [List.size_toArray] <;> omega) (by omega) (by rw [hj]; simpa using ew) ⟨rfl, fin⟩) hs
theorem ix_tup : IxR X (rIxT X.K) := by
  intro value slice pins s σ H x y v u Q I rx ry h hs
  obtain ⟨p, xs, i, z, rfl, rfl, hq, he, q⟩ := h
  cases rx
  obtain ⟨t, rfl⟩ := ry
  obtain ⟨its, r, pl, hz⟩ := I.tuple hq
  obtain ⟨j, h1, h2, h3, h4, h5⟩ := atI_get he
  obtain ⟨w, ew, rw'⟩ := r.get h2
  have hl := r.length
  have hn := line63
  have fin : EP X pins σ Q w s := ⟨z, H, I, rw', q⟩
  exact subscriptTail_builtinR (x := w) pl.typeIs slot_tuple_getitem.lookup
    (getItem_tuple (j := j) (Q := fun r s' => r = w ∧ EP X pins σ Q r s') pl (by omega) (by omega) (by rw [List.size_toArray, ← hl]; exact h1) (by simpa using ew) ⟨rfl, fin⟩) hs
theorem ix_str : IxR X rIxS := by
  intro value slice pins s σ H x y v u Q I rx ry h hs
  obtain ⟨z, i, c, rfl, rfl, hz, he, q⟩ := h
  obtain ⟨t, rfl⟩ := rx
  obtain ⟨t', rfl⟩ := ry
  obtain ⟨j, h1, h2, h3, h4, h5⟩ := atI_get he
  have hl : z.cps.toList.length = z.length := by simp [Str.length]
  rw [hl] at h1 h4 h5
  have hn := line63
  exact tail_any (typeIs_str s z t) slot_str_getitem.lookup (getItem_str (c := c) (by
    have e1 : decide (i < -(2 ^ 63 : Int)) = false := decide_eq_false (by omega)
    have e2 : decide (i ≥ 2 ^ 63) = false := decide_eq_false (by omega)
    rw [e1, e2, Bool.or_false]) (by rw [h1]; simpa using h2) ⟨.str ⟨#[c]⟩, H, I.tok _, ⟨_, rfl⟩, q⟩) hs

/-! ### xs[i] = v, any sign -/

/-! ### slices -/
theorem slice_bounds (lo hi : Option Int) (n : Nat) : (sliceBounds lo hi none n).1 = ((HT.sIx n 0 lo : Nat) : Int) ∧ (sliceBounds lo hi none n).2.1 = ((HT.sIx n n hi : Nat) : Int) ∧ (sliceBounds lo hi none n).2.2 = 1 := by
  refine ⟨?_, ?_, rfl⟩
  · cases lo with
    | none => simp [sliceBounds, HT.sIx]
    | some i =>
      simp only [sliceBounds, HT.sIx, Option.getD_none, show (1 : Int) > 0 by decide, if_true]
      by_cases h : i < 0
      · simp only [h, if_true] <;> omega
      · simp only [h, if_false] <;> omega
  · cases hi with
    | none => simp [sliceBounds, HT.sIx]
    | some i =>
      simp only [sliceBounds, HT.sIx, Option.getD_none, show (1 : Int) > 0 by decide, if_true]
      by_cases h : i < 0
      · simp only [h, if_true] <;> omega
      · simp only [h, if_false] <;> omega
theorem slicePick_cut (its : List Value) (lo hi : Option Int) : slicePick its.toArray lo hi none = ((its.drop (HT.sIx its.length 0 lo)).take (HT.sIx its.length its.length hi - HT.sIx its.length 0 lo)).toArray := by
  obtain ⟨h1, h2, h3⟩ := slice_bounds lo hi its.toArray.size
  unfold slicePick
  rw [h1, h2, h3]
  simp only [sliceRange_one, pick_run, List.size_toArray] <;> rfl
/-- xs[lo:hi] of a list: a new list -/
noncomputable def rSlL (K : PySem.W.Frag) : V → Option Int → Option Int → Hp → VK → Prop := fun x lo hi H Q => ∃ a xs, x = .ref a ∧ SqL K H a xs ∧ ∀ p, H p = none → Q (.ref p) (upd H p (.lst (cutV xs lo hi)))
theorem sl_list : SlR X (rSlL X.K) := by
  intro pins s σ H x v vl vu lo hi sl Q I rx hs pl pu h
  obtain ⟨a, xs, rfl, hx, q⟩ := h
  cases rx
  obtain ⟨its, r, ht, hz⟩ := I.list hx
  have hlen := r.length
  refine ⟨"list", _, slot_list_getitem.lookup, ht.isList.typeIs, ?_⟩
  refine wpAny_getItem_list_slice ht.isList hs pl pu .none (by simp) ?_ (by rw [List.size_toArray] <;> omega)
  rw [slicePick_cut, ← hlen]
  refine ⟨.ref s.heap.objs.size, _, I.laid (t' := s.toks) (o := .lst (cutV xs lo hi)) (fun b ob q => Heap.get?_push_of_some _ q) (Nat.le_refl _) ?_, rfl, q _ (I.hok.fresh (Nat.le_refl _))⟩
  exact ⟨Nat.le_trans (cutV_length xs lo hi) hz, _, 0, (r.drop (HT.sIx xs.length 0 lo)).take (HT.sIx xs.length xs.length hi - HT.sIx xs.length 0 lo), Heap.get?_push_size _ rfl⟩

/-! ### in, not in: flat items -/

/-! ### len, list(x), tuple(x) of any list or tuple that is read -/
theorem call_len_seq : CallR X (.builtin "len") (fun xs H Q => ∃ p ys, xs = [.ref p] ∧ (SqL X.K H p ys ∨ SqT X.K H p ys) ∧ Q (.int ys.length) H) := by
  intro pins s σ H xs us Q I r h
  obtain ⟨p, ys, rfl, hq, q⟩ := h
  obtain ⟨u, rfl, rx⟩ := vals1 r
  cases rx
  have hn := line63
  rcases hq with hq | hq
  · obtain ⟨its, r', pl, hz⟩ := I.list hq
    have hlen := r'.length
    exact Calls.call_len_list pl.isList (by simp only [List.size_toArray] <;> omega) ⟨.int ys.length, H, I.tok _, ⟨s.toks + 1, by rw [List.size_toArray, hlen]⟩, q⟩
  · obtain ⟨its, r', pl, hz⟩ := I.tuple hq
    have hlen := r'.length
    exact len_tuple pl (by simp only [List.size_toArray] <;> omega) ⟨.int ys.length, H, I.tok _, ⟨s.toks + 1, by rw [List.size_toArray, hlen]⟩, q⟩
theorem call_tuple_of : CallR X (.type "tuple") (fun xs H Q => ∃ p ys, xs = [.ref p] ∧ ((SqL X.K H p ys ∧ ∀ l, H l = none → Q (.ref l) (upd H l (.tup ys))) ∨ (SqT X.K H p ys ∧ Q (.ref p) H))) := by
  intro pins s σ H xs us Q I r h
  obtain ⟨p, ys, rfl, h⟩ := h
  obtain ⟨u, rfl, rx⟩ := vals1 r
  cases rx
  rcases h with ⟨hq, q⟩ | ⟨hq, q⟩
  · obtain ⟨its, r', pl, hz⟩ := I.list hq
    have hlen := r'.length
    refine call_tuple_list pl.isList (fun h' kp => ?_) (by simp only [List.size_toArray] <;> omega)
    have I1 : Inv X pins σ H { s with heap := h' } := I.kept (t' := s.toks) kp
    have I2 : Inv X pins σ (upd H h'.objs.size (.tup ys)) { s with heap := h'.push { cls := .type "tuple", data := .seq its.toArray } } :=
      I1.laid (t' := s.toks) (fun b o e => Heap.get?_push_of_some _ e) (Nat.le_refl _) (show ObjOk X.prog X.w _ _ _ (.tup ys) from ⟨hz, its, r', IsTup.new _ _⟩)
    exact ⟨.ref h'.objs.size, _, I2, rfl, q _ (I1.hok.fresh (Nat.le_refl _))⟩
  · obtain ⟨its, r', pl, hz⟩ := I.tuple hq
    exact call_tuple_same pl ⟨.ref p, H, I, rfl, q⟩

/-! ### the call of a builtin's method: o.m(..) -/
/-- the value is of that builtin type -/
noncomputable def tyV (K : PySem.W.Frag) (T : String) (x : V) (H : Hp) : Prop := match x with
  | .str _ => T = "str"
  | .int _ => T = "int"
  | .ref p => (T = "list" ∧ ∃ xs, SqL K H p xs) ∨ (T = "tuple" ∧ ∃ o, K.lookup p = some o ∧ o.cls = .type "tuple" ∧ o.dict = none) ∨
      (T = "dict" ∧ ((∃ kvs, H p = some (.dK kvs)) ∨ ∃ kvs, H p = some (.dT kvs))) ∨ (T = "set" ∧ ∃ S n, H p = some (.set S n))
  | _ => False
theorem tyV_is {pins : List (Addr × Obj)} {σ : St} {H : Hp} {s : Shared} {T : String} {x : V} {v : Value} (I : Inv X pins σ H s) (r : RelV x v) (ty : tyV X.K T x H) :
    s.TypeIs v T ∧ ∀ a, v = .ref a → ∃ ob, s.heap.get? a = some ob ∧ ob.dict = none := by
  cases x with
  | str z =>
    obtain ⟨t, rfl⟩ := r
    cases (show T = "str" from ty)
    exact ⟨typeIs_str s z t, fun _ e => nomatch e⟩
  | int i =>
    obtain ⟨t, rfl⟩ := r
    cases (show T = "int" from ty)
    exact ⟨typeIs_int s i t, fun _ e => nomatch e⟩
  | ref p =>
    cases r
    rcases ty with ⟨rfl, xs, hq⟩ | ⟨rfl, o, hk, hc, hd⟩ | ⟨rfl, hk⟩ | ⟨rfl, S, n, hk⟩
    · obtain ⟨its, _, pl, _⟩ := I.list hq
      refine ⟨pl.isList.typeIs, fun a e => ?_⟩
      cases e
      obtain ⟨o, n, e, c, hd, _⟩ := pl
      exact ⟨o, e, hd⟩
    · refine ⟨⟨o, I.kIn p o hk, hc⟩, fun a e => ?_⟩
      cases e
      exact ⟨o, I.kIn _ o hk, hd⟩
    · have z : ∃ o, s.heap.get? p = some o ∧ o.ExactDict := by
        rcases hk with ⟨kvs, hk⟩ | ⟨kvs, hk⟩
        · obtain ⟨_, _, _, _, o, _, _, e, ex, _⟩ := I.hok p _ hk
          exact ⟨o, e, ex⟩
        · obtain ⟨_, _, _, _, o, _, _, e, ex, _⟩ := I.hok p _ hk
          exact ⟨o, e, ex⟩
      obtain ⟨o, e, ex⟩ := z
      refine ⟨⟨o, e, ex.1⟩, fun a e2 => ?_⟩
      cases e2
      exact ⟨o, e, ex.2.1⟩
    · obtain ⟨o, _, _, _, e, ex, _⟩ := I.hok p _ hk
      refine ⟨⟨o, e, ex.1⟩, fun a e2 => ?_⟩
      cases e2
      exact ⟨o, e, ex.2.1⟩
  | _ => exact False.elim ty
noncomputable def tBM (K : PySem.W.Frag) (T : String) (r : V → List V → Hp → VK → Prop) (to : TE) (t : TA) : TE := fun σ H Q => to σ H fun x H1 => tyV K T x H1 ∧ t σ H1 fun xs H2 => r x xs H2 Q
variable {o e : Expr} {es : List Expr} {to : TE} {t : TA} {name : Str} {apos cpos : Pos} {T id : String} {r : V → List V → Hp → VK → Prop}
theorem pe_bm (pa : PlainAttrs T) (slot : Slot T name id) (hty : typeOf (.builtin id) = pure (.type "method_descriptor")) (hm : MtR X id r) (ho : PE X o to) (ha : PA X (e :: es) t)
    (hbase : attributeBase o name X.env (eval o X.env) = eval o X.env := by rfl)
    (hfew : ((backTo cpos (starEach (e :: es) X.env)).all (fun x => !x.1) && (backToKw cpos (keywordEach [] X.env)).all (fun x => x.1.isSome)
      && decide ((e :: es).length + ([] : List Keyword).length + (if ([] : List Keyword).isEmpty then 0 else 1) < 30)) = true := by rfl)
    (hline : (apos.endLine == cpos.line) = true := by rfl) (hs : starEach (e :: es) X.env = (false, eval e X.env) :: starEach es X.env := by rfl) (hplain : (backTo cpos (starEach es X.env)).any (·.1) = false := by rfl) :
    PE X (.Call (.Attribute o name apos) (e :: es) [] cpos) (tBM X.K T r to t) := by
  intro pins s σ H Q I h
  refine wpAny_Call_method_late hbase hfew hline rfl (thn (ho pins s σ H _ I h) fun v s1 ⟨x, H1, I1, r1, ty, q1⟩ => ?_)
  obtain ⟨h1, h2⟩ := tyV_is I1 r1 ty
  refine ⟨T, id, pa, slot, hty, h1, h2, ?_⟩
  have hA := ha cpos pins s1 σ H1 _ I1 q1
  rw [hs] at hA ⊢
  refine Calls.callWith_builtin (by show (false || (backTo cpos (starEach es X.env)).any (·.1)) = false; rw [hplain] <;> rfl) (Calls.evalArgs_plain ?_)
  exact thn hA fun us s2 ⟨vs, H2, I2, r2, q2⟩ => hm pins s2 σ H2 x vs v us Q I2 r1 r2 q2
/- xs.append(e), list.index on a module's tuple .. are MtR facts of 06m -/
end
end L2

namespace L2
open PySem PySem.Spec PyProof.Rows

noncomputable def MtM (X : Cx) (id : String) (r : V → List V → Hp → VK → Prop) : Prop :=
  ∀ (pins : List (Addr × Obj)) (s : Shared) (σ : St) (H : Hp) (x : V) (xs : List V) (v : Value) (us : List Value) (Q : VK), Inv X pins σ H s → RelV x v → Vals xs us → r x xs H Q →
    wpAny (model X.prog X.w) X.A (call (.builtin id) (v :: us)) (EP X pins σ Q) X.xe s

/-! ### lists of values -/
theorem Vals.one : ∀ {x : V} {us : List Value}, Vals [x] us → ∃ u, us = [u] ∧ RelV x u
  | _, _, .cons r .nil => ⟨_, rfl, r⟩
theorem Vals.two : ∀ {x y : V} {us : List Value}, Vals [x, y] us → ∃ u v, us = [u, v] ∧ RelV x u ∧ RelV y v
  | _, _, _, .cons r (.cons q .nil) => ⟨_, _, rfl, r, q⟩

section
variable {X : Cx} {pins : List (Addr × Obj)} {σ : St} {H : Hp} {s : Shared} {l b : Addr} {xs ys zs : List V}

/-! ### the two steps: a tracked list is rewritten, a new list is laid -/
theorem Inv.lset {its its' : List Value} {n : Nat} {f : Array Value → Array Value} {t' : Nat} (I : Inv X pins σ H s) (hH : H l = some (.lst xs))
    (e : s.heap.get? l = some { cls := .type "list", data := .seq its.toArray n }) (hf : f its.toArray = its'.toArray) (hv : Vals ys its') (hz : ys.length ≤ sizeLine) :
    Inv X pins σ (upd H l (.lst ys)) { s with heap := s.heap.update l (Obj.mapSeq f), toks := t' } := by
  have q := PySem.IsL.update e f
  rw [hf] at q
  refine I.write (x := l) (e := l) (by rw [hH]; exact trivial) (.inl rfl) (fun b' u hb hu => (Heap.get?_update_other s.heap (Obj.mapSeq f) (Ne.symm hb)).trans hu) ⟨_, q⟩ ?_
  exact ⟨hz, its', _, hv, q⟩
theorem Inv.lnew {its : List Value} {t' : Nat} (I : Inv X pins σ H s) (hv : Vals ys its) (hz : ys.length ≤ sizeLine) :
    Inv X pins σ (upd H s.heap.objs.size (.lst ys)) { s with heap := s.heap.push { cls := .type "list", data := .seq its.toArray }, toks := t' } :=
  I.laid (fun _ _ q => Heap.get?_push_of_some _ q) (Nat.le_refl _) ⟨hz, its, 0, hv, Heap.get?_push_size _ rfl⟩
theorem Inv.fresh (I : Inv X pins σ H s) : H s.heap.objs.size = none := I.hok.fresh (Nat.le_refl _)
theorem Inv.lstM (I : Inv X pins σ H s) (hH : H l = some (.lst xs)) : xs.length ≤ sizeLine ∧ ∃ (its : List Value) (n : Nat), Vals xs its ∧ xs.length = its.length ∧ s.heap.get? l = some { cls := .type "list", data := .seq its.toArray n } := by
  obtain ⟨z, its, n, r, e⟩ := I.hok l _ hH
  exact ⟨z, its, n, r, r.length, e⟩

end

section
variable {X : Cx}

/-! ### methods -/
noncomputable def rAppend : V → List V → Hp → VK → Prop := fun x vs H Q => ∃ l xs y, x = .ref l ∧ vs = [y] ∧ H l = some (.lst xs) ∧ xs.length < sizeLine ∧ Q .non (upd H l (.lst (xs ++ [y])))
theorem mt_append : MtM X "list.append" rAppend := by
  intro pins s σ H x vs v us Q I rx rv h
  obtain ⟨l, xs, y, rfl, rfl, hH, hz, q⟩ := h
  cases rx
  obtain ⟨u, rfl, ru⟩ := rv.one
  obtain ⟨z, its, n, r, hl, e⟩ := I.lstM hH
  refine call_meets F.slot_list_append ⟨_, e, rfl⟩ F.entry_list_append (F.args_list_append_2 _ _) (PySem.list_append l its.toArray n u (by rw [List.size_toArray]; omega)) ⟨e, ?_⟩
  refine ⟨.non, _, I.lset (its' := its ++ [u]) hH e (by simp) (r.append (.cons ru .nil)) ?_, rfl, q⟩
  rw [List.length_append, List.length_singleton]
  omega






/-! ### list + list, list += list, list * int -/
noncomputable def rCat : R2 := fun x y H Q => ∃ l b xs zs, x = .ref l ∧ y = .ref b ∧ H l = some (.lst xs) ∧ H b = some (.lst zs) ∧ xs.length + zs.length ≤ sizeLine ∧ ∀ p, H p = none → Q (.ref p) (upd H p (.lst (xs ++ zs)))
theorem op_cat : OpR X (binaryOp .Add) rCat := by
  intro pins s σ H x y v u Q I rx ry h
  obtain ⟨l, b, xs, zs, rfl, rfl, hH, hB, hz, q⟩ := h
  cases rx
  cases ry
  obtain ⟨z, its, n, r, hl, e⟩ := I.lstM hH
  obtain ⟨z2, its2, n2, r2, hl2, e2⟩ := I.lstM hB
  refine PySem.P.add_list e e2 ?_ (by rw [List.size_toArray, List.size_toArray]; omega)
  have ea : its.toArray ++ its2.toArray = (its ++ its2).toArray := by simp
  rw [ea]
  exact ⟨.ref _, _, I.lnew (t' := s.toks) (r.append r2) (by rw [List.length_append]; omega), rfl, q _ I.fresh⟩
theorem len_rep {α : Type} (xs : List α) (k : Nat) : (List.replicate k xs).flatten.length = k * xs.length := by
  induction k with
  | zero => simp
  | succ k ih => rw [List.replicate_succ, List.flatten_cons, List.length_append, ih, Nat.succ_mul, Nat.add_comm]

/-! ### del xs[i] -/
end

/-! ### xs[a:b] = ys -/
section
variable {prog : Program} {w : World} {A : Around} {E : Value → Shared → Prop} {s : Shared}
end

section
variable {X : Cx}
end
end L2

namespace L2
open PySem PySem.Spec PyProof.Rows

/-! ### lists of pairs as tables -/
section
variable {κ : Type} [DecidableEq κ]
noncomputable def valV (kvs : List (κ × V)) (k : κ) : Option V := (kvs.find? fun kv => decide (kv.1 = k)).map (·.2)
/-- in its place, or at the end -/
noncomputable def putK (kvs : List (κ × V)) (k : κ) (v : V) : List (κ × V) :=
  if (kvs.any fun kv => decide (kv.1 = k)) = true then kvs.map (fun kv => if kv.1 = k then (kv.1, v) else kv) else kvs ++ [(k, v)]
noncomputable def dropK (kvs : List (κ × V)) (k : κ) : List (κ × V) := kvs.filter fun kv => decide (kv.1 ≠ k)

theorem valV_nil {k : κ} : valV ([] : List (κ × V)) k = none := rfl
theorem valV_pos {p : κ × V} {r : List (κ × V)} {k : κ} (e : p.1 = k) : valV (p :: r) k = some p.2 := by simp [valV, List.find?_cons, e]
theorem valV_neg {p : κ × V} {r : List (κ × V)} {k : κ} (e : ¬ p.1 = k) : valV (p :: r) k = valV r k := by simp [valV, List.find?_cons, e]
theorem valV_any (k : κ) : ∀ kvs : List (κ × V), (kvs.any fun kv => decide (kv.1 = k)) = (valV kvs k).isSome
  | [] => rfl
  | p :: r => by
    rw [List.any_cons]
    by_cases e : p.1 = k
    · simp only [valV_pos e, decide_eq_true e, Bool.true_or, Option.isSome_some]
    · rw [valV_neg e, decide_eq_false e, Bool.false_or]; exact valV_any k r
theorem valV_map (k j : κ) (y : V) : ∀ kvs : List (κ × V), valV (kvs.map fun kv => if kv.1 = k then (kv.1, y) else kv) j = (valV kvs j).map fun x => if j = k then y else x
  | [] => rfl
  | p :: r => by
    have ih := valV_map k j y r
    rw [List.map_cons]
    by_cases h : p.1 = k
    · rw [if_pos h]
      by_cases e : p.1 = j
      · rw [valV_pos (p := (p.1, y)) e, valV_pos e, Option.map_some, if_pos (e.symm.trans h)]
      · rw [valV_neg (p := (p.1, y)) e, valV_neg e, ih]
    · rw [if_neg h]
      by_cases e : p.1 = j
      · rw [valV_pos (p := p) e, valV_pos e, Option.map_some, if_neg (fun z => h (e.trans z))]
      · rw [valV_neg (p := p) e, valV_neg e, ih]
theorem valV_snoc (k j : κ) (y : V) : ∀ kvs : List (κ × V), valV kvs k = none → valV (kvs ++ [(k, y)]) j = if j = k then some y else valV kvs j
  | [], _ => by
    by_cases e : k = j
    · rw [if_pos e.symm]; exact valV_pos (p := (k, y)) e
    · rw [if_neg (fun z => e z.symm)]; exact valV_neg (p := (k, y)) e
  | p :: r, hn => by
    rw [List.cons_append]
    have hk : ¬ p.1 = k := fun z => by rw [valV_pos z] at hn; cases hn
    rw [valV_neg hk] at hn
    have ih := valV_snoc k j y r hn
    by_cases e : p.1 = j
    · rw [valV_pos e, valV_pos e, if_neg (fun z => hk (e.trans z))]
    · rw [valV_neg e, valV_neg e, ih]
theorem valV_put (kvs : List (κ × V)) (k j : κ) (y : V) : valV (putK kvs k y) j = if j = k then some y else valV kvs j := by
  unfold putK
  by_cases a : (kvs.any fun kv => decide (kv.1 = k)) = true
  · rw [if_pos a, valV_map]
    rw [valV_any] at a
    by_cases e : j = k
    · obtain ⟨x, hx⟩ := Option.isSome_iff_exists.mp a
      rw [if_pos e, e, hx, Option.map_some, if_pos rfl]
    · rw [if_neg e]
      cases valV kvs j with
      | none => rfl
      | some x => rw [Option.map_some, if_neg e]
  · rw [if_neg a]
    refine valV_snoc k j y kvs ?_
    rw [valV_any] at a
    cases q : valV kvs k with
    | none => rfl
    | some x => rw [q] at a; exact (a rfl).elim
theorem length_putK (kvs : List (κ × V)) (k : κ) (v : V) : (putK kvs k v).length ≤ kvs.length + 1 := by
  unfold putK
  split
  · rw [List.length_map]; omega
  · rw [List.length_append, List.length_cons, List.length_nil]; omega

theorem RelO.isSome_eq {o : Option V} {u : Option Value} (r : RelO o u) : o.isSome = u.isSome := by
  cases o with
  | none => cases u with
    | none => rfl
    | some _ => exact (show False from r).elim
  | some _ => cases u with
    | none => exact (show False from r).elim
    | some _ => rfl
theorem RelO.getD {o : Option V} {u : Option Value} {d : V} {d' : Value} (r : RelO o u) (rd : RelV d d') : RelV (o.getD d) (u.getD d') := by
  cases o with
  | none => cases u with
    | none => exact rd
    | some _ => exact (show False from r).elim
  | some _ => cases u with
    | none => exact (show False from r).elim
    | some _ => exact r

/-- raw tables of the same keys -/
theorem KV.val {kvs : List (κ × V)} {vs : List (κ × Value)} (r : KV kvs vs) (k : κ) : RelO (valV kvs k) (valueAt vs k) := by
  unfold KV at r
  induction r with
  | nil => exact True.intro
  | @cons p q ps qs h t ih =>
    obtain ⟨h1, h2⟩ := h
    by_cases e : p.1 = k
    · have e' : q.1 = k := h1.symm.trans e
      have b : valueAt (q :: qs) k = some q.2 := by simp [valueAt, List.find?_cons, e']
      rw [valV_pos e, b]; exact h2
    · have e' : ¬ q.1 = k := fun z => e (h1.trans z)
      have b : valueAt (q :: qs) k = valueAt qs k := by simp [valueAt, List.find?_cons, e']
      rw [valV_neg e, b]; exact ih
theorem KV.any {kvs : List (κ × V)} {vs : List (κ × Value)} (r : KV kvs vs) (k : κ) : (kvs.any fun kv => decide (kv.1 = k)) = vs.any fun kv => decide (kv.1 = k) := by
  unfold KV at r
  induction r with
  | nil => rfl
  | cons h t ih => rw [List.any_cons, List.any_cons, ih, h.1]
theorem KV.repl {kvs : List (κ × V)} {vs : List (κ × Value)} (r : KV kvs vs) (k : κ) {y : V} {u : Value} (ry : RelV y u) :
    KV (kvs.map fun kv => if kv.1 = k then (kv.1, y) else kv) (vs.map fun kv => if kv.1 = k then (kv.1, u) else kv) := by
  unfold KV at r ⊢
  induction r with
  | nil => exact .nil
  | @cons p q ps qs h t ih =>
    rw [List.map_cons, List.map_cons]
    refine .cons ?_ ih
    obtain ⟨h1, h2⟩ := h
    by_cases e : p.1 = k
    · rw [if_pos e, if_pos (h1.symm.trans e)]; exact ⟨h1, ry⟩
    · rw [if_neg e, if_neg (fun z => e (h1.trans z))]; exact ⟨h1, h2⟩
theorem KV.put {kvs : List (κ × V)} {vs : List (κ × Value)} (r : KV kvs vs) (k : κ) {y : V} {u : Value} (ry : RelV y u) : KV (putK kvs k y) (stored vs k u) := by
  unfold putK stored
  rw [r.any k]
  by_cases e : (vs.any fun kv => decide (kv.1 = k)) = true
  · rw [if_pos e, if_pos e]; exact r.repl k ry
  · rw [if_neg e, if_neg e]; exact Paired.snoc r ⟨rfl, ry⟩
theorem KV.drop {kvs : List (κ × V)} {vs : List (κ × Value)} (r : KV kvs vs) (k : κ) : KV (dropK kvs k) (without vs k) := by
  unfold KV at r ⊢
  unfold dropK without
  induction r with
  | nil => exact .nil
  | @cons p q ps qs h t ih =>
    obtain ⟨h1, h2⟩ := h
    rw [List.filter_cons, List.filter_cons]
    by_cases e : p.1 = k
    · have a : ¬ decide (p.1 ≠ k) = true := by simp [e]
      have b : ¬ decide (q.1 ≠ k) = true := by simp [h1.symm.trans e]
      rw [if_neg a, if_neg b]; exact ih
    · have e' : ¬ q.1 = k := fun z => e (h1.trans z)
      have a : decide (p.1 ≠ k) = true := by simp [e]
      have b : decide (q.1 ≠ k) = true := by simp [e']
      rw [if_pos a, if_pos b]; exact .cons ⟨h1, h2⟩ ih
theorem KV.length {kvs : List (κ × V)} {vs : List (κ × Value)} (r : KV kvs vs) : kvs.length = vs.length := Paired.length r
theorem dropK_le (kvs : List (κ × V)) (k : κ) : (dropK kvs k).length ≤ kvs.length := List.length_filter_le _ _
end


/-! ### a tracked dict, its keys ints and texts or tuples of these -/
theorem kV_is {P : Program} {w : World} {k : Key} {u : Value} (r : RelV (kV k) u) : (mixKind P w).is k u = true := by
  cases k with
  | inl i => obtain ⟨t, e⟩ := (show ∃ t, u = Value.int i t from r); subst e; exact mixKind_int P w i t
  | inr x => obtain ⟨t, e⟩ := (show ∃ t, u = Value.str x t from r); subst e; exact mixKind_str P w x t
theorem items_are {P : Program} {w : World} : ∀ {ks : List Key} {us : List Value}, Vals (ks.map kV) us → ItemsAre (mixKind P w) ks us
  | [], _, r => by rw [List.map_nil] at r; cases r; exact .nil
  | k :: ks, _, r => by
    rw [List.map_cons] at r
    cases r with
    | cons h t => exact .cons (kV_is h) (items_are t)

/-- raw entries of a dict with tuple keys -/
noncomputable abbrev KT (H : Hp) : List (List Key × V) → List (List Key × Addr × Value) → Prop := Paired fun p q => p.1 = q.1 ∧ H q.2.1 = some (.tup (p.1.map kV)) ∧ RelV p.2 q.2.2
theorem KT.val {H : Hp} {kvs : List (List Key × V)} {xs : List (List Key × Addr × Value)} (r : KT H kvs xs) (k : List Key) : RelO (valV kvs k) ((atKey xs k).map (·.2)) := by
  induction r with
  | nil => exact True.intro
  | @cons p q ps qs h t ih =>
    obtain ⟨h1, _, h2⟩ := h
    by_cases e : p.1 = k
    · have e' : q.1 = k := h1.symm.trans e
      have b : atKey (q :: qs) k = some q.2 := by simp [atKey, List.find?_cons, e']
      rw [valV_pos e, b]; exact h2
    · have e' : ¬ q.1 = k := fun z => e (h1.trans z)
      have b : atKey (q :: qs) k = atKey qs k := by simp [atKey, List.find?_cons, e']
      rw [valV_neg e, b]; exact ih
theorem KT.repl {H : Hp} {kvs : List (List Key × V)} {xs : List (List Key × Addr × Value)} (r : KT H kvs xs) (k : List Key) {y : V} {u : Value} (ry : RelV y u) :
    KT H (kvs.map fun kv => if kv.1 = k then (kv.1, y) else kv) (xs.map (putAt k u)) := by
  induction r with
  | nil => exact .nil
  | @cons p q ps qs h t ih =>
    rw [List.map_cons, List.map_cons]
    refine .cons ?_ ih
    obtain ⟨h1, h2, h3⟩ := h
    unfold putAt
    by_cases e : p.1 = k
    · rw [if_pos e, if_pos (h1.symm.trans e)]; exact ⟨h1, h2, ry⟩
    · rw [if_neg e, if_neg (fun z => e (h1.trans z))]; exact ⟨h1, h2, h3⟩
theorem KT.put {H : Hp} {kvs : List (List Key × V)} {xs : List (List Key × Addr × Value)} (r : KT H kvs xs) (k : List Key) {b : Addr} {y : V} {u : Value} (hb : H b = some (.tup (k.map kV))) (ry : RelV y u) :
    KT H (putK kvs k y) (storedH xs k b u) := by
  have e : (kvs.any fun kv => decide (kv.1 = k)) = (atKey xs k).isSome := by
    rw [valV_any, (r.val k).isSome_eq, Option.isSome_map]
  unfold putK storedH
  rw [e]
  by_cases q : (atKey xs k).isSome = true
  · rw [if_pos q, if_pos q]; exact r.repl k ry
  · rw [if_neg q, if_neg q]; exact Paired.snoc r ⟨rfl, hb, ry⟩
theorem KT.keeps {H H' : Hp} {kvs : List (List Key × V)} {xs : List (List Key × Addr × Value)} (r : KT H kvs xs) (ht : ∀ b ys, H b = some (.tup ys) → H' b = some (.tup ys)) : KT H' kvs xs :=
  Paired.mapP r fun _ _ z => ⟨z.1, ht _ _ z.2.1, z.2.2⟩

section
variable {P : Program} {w : World} {H : Hp} {h : Heap} {a : Addr}
theorem rd_of {u : HO} (ok : HOk P w H h) (e : Rd H a u) : ObjOk P w H h a u := e.ok ok
theorem dk_rd {kvs : List (Key × V)} (ok : HOk P w H h) (e : Rd H a (.dK kvs)) : kvs.length ≤ sizeLine ∧ (a == sysModules) = false ∧ ∃ vs, KV kvs vs ∧ h.DictOf (mixKind P w) a vs :=
  show ObjOk P w H h a (.dK kvs) from rd_of ok e
theorem dk_of {kvs : List (Key × V)} (ok : HOk P w H h) (e : H a = some (.dK kvs)) : kvs.length ≤ sizeLine ∧ (a == sysModules) = false ∧ ∃ vs, KV kvs vs ∧ h.DictOf (mixKind P w) a vs := dk_rd ok (.inl e)
/-- a tracked tuple of ints and texts is a key -/
theorem key_of {ks : List Key} (ok : HOk P w H h) (e : H a = some (.tup (ks.map kV))) : (tupleKind (mixKind P w)).is h ks a := by
  obtain ⟨_, its, r, o, h1, h2, n, h3⟩ := (show ObjOk P w H h a (.tup (ks.map kV)) from ok a _ e)
  exact ⟨o, its.toArray, n, h1, h2, h3, by simpa using items_are r⟩
theorem dt_rd {kvs : List (List Key × V)} (ok : HOk P w H h) (e : Rd H a (.dT kvs)) : kvs.length ≤ sizeLine ∧ (a == sysModules) = false ∧
    ∃ xs, KT H kvs xs ∧ h.DictOfH (tupleKind (mixKind P w)) a xs := by
  obtain ⟨z, y, xs, r, o, es, ep, h1, h2, h3, h4, h5⟩ := (show ObjOk P w H h a (.dT kvs) from rd_of ok e)
  refine ⟨z, y, xs, r, o, es, ep, h1, h2, h3, h4, fun x hx => ?_, h5⟩
  have all : ∀ {l : List (List Key × V)} {m : List (List Key × Addr × Value)}, KT H l m → ∀ x ∈ m, (tupleKind (mixKind P w)).is h x.1 x.2.1 := by
    intro l m q
    induction q with
    | nil => intro x hx; exact nomatch hx
    | @cons p q ps qs hq t ih =>
      intro x hx
      rcases List.mem_cons.mp hx with e | hx
      · subst e
        exact key_of ok (by rw [← hq.1]; exact hq.2.1)
      · exact ih x hx
  exact all r x hx
theorem dt_of {kvs : List (List Key × V)} (ok : HOk P w H h) (e : H a = some (.dT kvs)) : kvs.length ≤ sizeLine ∧ (a == sysModules) = false ∧
    ∃ xs, KT H kvs xs ∧ h.DictOfH (tupleKind (mixKind P w)) a xs := dt_rd ok (.inl e)
end

/-- what the dict at a holds at the key y -/
noncomputable def DGet (H : Hp) (a : Addr) (y : V) (r : Option V) : Prop :=
  (∃ kvs k, Rd H a (.dK kvs) ∧ y = kV k ∧ r = valV kvs k) ∨ ∃ kvs k b, Rd H a (.dT kvs) ∧ y = .ref b ∧ H b = some (.tup (k.map kV)) ∧ r = valV kvs k
/-- the heap behind a[y] = v -/
noncomputable def DPut (H : Hp) (a : Addr) (y v : V) (H' : Hp) : Prop :=
  (∃ kvs k, H a = some (.dK kvs) ∧ y = kV k ∧ kvs.length < sizeLine ∧ H' = upd H a (.dK (putK kvs k v))) ∨
  ∃ kvs k b, H a = some (.dT kvs) ∧ y = .ref b ∧ H b = some (.tup (k.map kV)) ∧ kvs.length < sizeLine ∧ H' = upd H a (.dT (putK kvs k v))
theorem DGet.k {H : Hp} {a : Addr} {kvs : List (Key × V)} {k : Key} (e : H a = some (.dK kvs)) : DGet H a (kV k) (valV kvs k) := .inl ⟨kvs, k, .inl e, rfl, rfl⟩
theorem DPut.k {H : Hp} {a : Addr} {kvs : List (Key × V)} {k : Key} {v : V} (e : H a = some (.dK kvs)) (hl : kvs.length < sizeLine) : DPut H a (kV k) v (upd H a (.dK (putK kvs k v))) := .inl ⟨kvs, k, e, rfl, hl, rfl⟩


section
variable {X : Cx} {pins : List (Addr × Obj)} {σ : St} {H : Hp} {s : Shared} {a : Addr} {y v : V} {u r : Value} {o : Option V} {A : Around} {E : Value → Shared → Prop}

theorem Inv.big (I : Inv X pins σ H s) : sysModules < s.heap.objs.size := by
  have h : mainGlobals < s.heap.objs.size := (I.mod.glob.keeps I.bk).lt
  exact Nat.lt_trans (by decide) h

/-- d[y], there -/
theorem d_getItem {Q : Value → Shared → Prop} (hu : A.units + 1 < cLine) (I : Inv X pins σ H s) (g : DGet H a y (some v)) (ry : RelV y u) (h : ∀ w' s', Inv X pins σ H s' → RelV v w' → Q w' s') :
    wpAny (model X.prog X.w) A (getItem (.ref a) u) Q E s := by
  rcases g with ⟨kvs, k, e, ey, l⟩ | ⟨kvs, k, b, e, ey, eb, l⟩
  · subst ey
    obtain ⟨z, hd, vs, rel, dd⟩ := dk_rd I.hok e
    obtain ⟨w', hw, rw'⟩ := RelO.some_of (v := v) (o := valueAt vs k) (by rw [l]; exact rel.val k)
    exact wpAny_getItem_of (kV_is ry) dd.mapOf hw (h w' _ (I.tok _) rw')
  · subst ey
    cases (show u = Value.ref b from ry)
    obtain ⟨z, hd, xs, rel, dd⟩ := dt_rd I.hok e
    obtain ⟨w', hw, rw'⟩ := RelO.some_of (v := v) (o := (atKey xs k).map (·.2)) (by rw [l]; exact rel.val k)
    obtain ⟨p, hp, hp2⟩ := Option.map_eq_some_iff.mp hw
    refine wpAny_getItem_heap (tupleKind_room_in1 hu) (key_of I.hok eb) dd hp ?_
    rw [hp2]
    exact h w' _ (I.tok _) rw'
/-- y in d -/
theorem d_in {Q : Value → Shared → Prop} (hu : A.units + 1 < cLine) (I : Inv X pins σ H s) (g : DGet H a y o) (ry : RelV y u) (h : ∀ s', Inv X pins σ H s' → Q (.bool o.isSome) s') :
    wpAny (model X.prog X.w) A (compareOp .In u (.ref a)) Q E s := by
  rcases g with ⟨kvs, k, e, ey, l⟩ | ⟨kvs, k, b, e, ey, eb, l⟩
  · subst ey
    obtain ⟨z, hd, vs, rel, dd⟩ := dk_rd I.hok e
    refine wpAny_in_of (kV_is ry) hd dd.mapOf ?_
    rw [← (rel.val k).isSome_eq, ← l]
    exact h _ (I.tok _)
  · subst ey
    cases (show u = Value.ref b from ry)
    obtain ⟨z, hd, xs, rel, dd⟩ := dt_rd I.hok e
    refine wpAny_in_heap (tupleKind_room_in1 hu) (key_of I.hok eb) hd dd ?_
    have q := (rel.val k).isSome_eq
    rw [Option.isSome_map] at q
    rw [← q, ← l]
    exact h _ (I.tok _)
theorem d_notIn {Q : Value → Shared → Prop} (hu : A.units + 1 < cLine) (I : Inv X pins σ H s) (g : DGet H a y o) (ry : RelV y u) (h : ∀ s', Inv X pins σ H s' → Q (.bool (!o.isSome)) s') :
    wpAny (model X.prog X.w) A (compareOp .NotIn u (.ref a)) Q E s := by
  rcases g with ⟨kvs, k, e, ey, l⟩ | ⟨kvs, k, b, e, ey, eb, l⟩
  · subst ey
    obtain ⟨z, hd, vs, rel, dd⟩ := dk_rd I.hok e
    refine wpAny_notIn_of (kV_is ry) hd dd.mapOf ?_
    rw [← (rel.val k).isSome_eq, ← l]
    exact h _ (I.tok _)
  · subst ey
    cases (show u = Value.ref b from ry)
    obtain ⟨z, hd, xs, rel, dd⟩ := dt_rd I.hok e
    refine wpAny_notIn_heap (tupleKind_room_in1 hu) (key_of I.hok eb) hd dd ?_
    have q := (rel.val k).isSome_eq
    rw [Option.isSome_map] at q
    rw [← q, ← l]
    exact h _ (I.tok _)
/-- a dict's object is replaced -/
theorem d_write {h' : Heap} {t' : Nat} {ob : HO} (I : Inv X pins σ H s) (mu : Mut (H a)) (hs : Heap.SameBut a s.heap h') (he : ∃ q, h'.get? a = some q) (new : ObjOk X.prog X.w (upd H a ob) h' a ob) :
    Inv X pins σ (upd H a ob) { s with heap := h', toks := t' } :=
  I.write (x := a) (e := a) mu (.inl rfl) (fun b q hb z => (hs.2 b hb).trans z) he new
theorem dk_new {P : Program} {w : World} {H' : Hp} {h' : Heap} {kvs : List (Key × V)} {vs : List (Key × Value)} (z : kvs.length ≤ sizeLine) (hd : (a == sysModules) = false) (rel : KV kvs vs) (dd : h'.DictOf (mixKind P w) a vs) :
    ObjOk P w H' h' a (.dK kvs) := ⟨z, hd, vs, rel, dd⟩
/-- d[y] = v -/
theorem d_setItem {H' : Hp} {Q : Unit → Shared → Prop} (hu : A.units + 1 < cLine) (I : Inv X pins σ H s) (g : DPut H a y v H') (ry : RelV y u) (rv : RelV v r) (h : ∀ s', Inv X pins σ H' s' → Q () s') :
    wpAny (model X.prog X.w) A (setItem (.ref a) u r) Q E s := by
  rcases g with ⟨kvs, k, e, ey, l, eH⟩ | ⟨kvs, k, b, e, ey, eb, l, eH⟩
  · subst ey eH
    obtain ⟨z, hd, vs, rel, dd⟩ := dk_of I.hok e
    have hz : vs.length ≤ sizeLine := by rw [← rel.length]; exact z
    have hl : (putK kvs k v).length ≤ sizeLine := by have := length_putK kvs k v; omega
    refine wpAny_setItem_pairs (hsz := hz) (kV_is ry) dd fun h' dd' hs => h _ ?_
    have he : ∃ q, h'.get? a = some q := let ⟨q, _, _, hq, _⟩ := dd'; ⟨q, hq⟩
    exact d_write I (by rw [e]; exact True.intro) hs he (dk_new hl hd (rel.put k rv) dd')
  · subst ey eH
    cases (show u = Value.ref b from ry)
    obtain ⟨z, hd, xs, rel, dd⟩ := dt_of I.hok e
    have hz : xs.length ≤ sizeLine := by rw [← Paired.length rel]; exact z
    have hl : (putK kvs k v).length ≤ sizeLine := by have := length_putK kvs k v; omega
    refine wpAny_setItem_heap (hsz := hz) (tupleKind_room_in1 hu) (key_of I.hok eb) dd fun h' dd' hs => h _ ?_
    obtain ⟨q, es, ep, hq, h2, h3, h4, _, h5⟩ := dd'
    refine d_write I (by rw [e]; exact True.intro) hs ⟨q, hq⟩ ⟨hl, hd, _, (rel.put k eb rv).keeps fun c ys ec => ?_, q, es, ep, hq, h2, h3, h4, h5⟩
    rw [upd_ne (ne_of ec e (fun z => nomatch z))]
    exact ec
end

section
variable {X : Cx} {pins : List (Addr × Obj)} {σ : St} {H : Hp} {s : Shared} {a : Addr} {kvs : List (Key × V)} {k : Key} {u : Value} {A : Around} {E : Value → Shared → Prop}
/-- d.pop(k[, x]), there -/
theorem d_pop {v : V} {more : List Value} {Q : Value → Shared → Prop} (I : Inv X pins σ H s) (e : H a = some (.dK kvs)) (ry : RelV (kV k) u) (l : valV kvs k = some v) (hm : more = [] ∨ ∃ x, more = [x])
    (h : ∀ w' s', Inv X pins σ (upd H a (.dK (dropK kvs k))) s' → RelV v w' → Q w' s') : wpAny (model X.prog X.w) A (call (.builtin "dict.pop") (.ref a :: u :: more)) Q E s := by
  obtain ⟨z, hd, vs, rel, dd⟩ := dk_of I.hok e
  obtain ⟨w', hw, rw'⟩ := RelO.some_of (v := v) (o := valueAt vs k) (by rw [← l]; exact rel.val k)
  have hp : (keyPart u).isSome = true := by
    cases k with
    | inl i => obtain ⟨t, q⟩ := (show ∃ t, u = Value.int i t from ry); subst q; rfl
    | inr x => obtain ⟨t, q⟩ := (show ∃ t, u = Value.str x t from ry); subst q; rfl
  have ha : argsOk "dict.pop" ⟨.ref a :: u :: more, []⟩ := by
    rcases hm with q | ⟨x, q⟩
    · subst q; exact PySem.F.args_dict_pop_2 _ _
    · subst q; exact PySem.F.args_dict_pop_3 _ _ _
  refine call_meetsIn PySem.F.slot_dict_pop dd.typeIs PySem.F.entry_dict_pop ha (meets_dict_pop_there (mixKind X.prog X.w) a (kV_is ry) more hm hp)
    ⟨vs, w', dd, by rw [← rel.length]; exact z, hw, fun h' dd' hs => h w' _ ?_ rw'⟩
  have he : ∃ q, h'.get? a = some q := let ⟨q, _, _, hq, _⟩ := dd'; ⟨q, hq⟩
  exact d_write I (by rw [e]; exact True.intro) hs he (dk_new (Nat.le_trans (dropK_le kvs k) z) hd (rel.drop k) dd')
/-- len(d) -/
theorem d_len {Q : Value → Shared → Prop} (I : Inv X pins σ H s) (e : Rd H a (.dK kvs)) (h : ∀ t s', Inv X pins σ H s' → Q (.int kvs.length t) s') : wpAny (model X.prog X.w) A (call (.builtin "len") [.ref a]) Q E s := by
  obtain ⟨z, hd, vs, rel, dd⟩ := dk_rd I.hok e
  refine call_len_dict hd dd (by rw [← rel.length]; rw [sizeLine_eq] at z; omega) ?_
  rw [← rel.length]
  exact h _ _ (I.tok _)
end


/-! ### readings and rules -/
/-- the element of a subscription, not a slice -/
noncomputable def NoSl (i : Expr) : Prop := ∀ ov iv, subscripted i false ov iv = operate [ov, iv] (getItem ov iv)
theorem subD_of {prog : Program} {w : World} {A : Around} {E : Value → Shared → Prop} {s : Shared} {env : Env} {value slice : Expr} {pos : Pos} {T id : String} {Q : Value → Shared → Prop}
    (hl : typeLookup (.type T) "__getitem__" = pure (some (.builtin id))) (hs : NoSl slice)
    (h : wpAny (model prog w) A (eval value env) (fun o s₁ => wpAny (model prog w) A (eval slice env) (fun i s₂ => s₂.TypeIs o T ∧ wpAny (model prog w) A (getItem o i) Q E s₂) E s₁) E s) :
    wpAny (model prog w) A (eval (.Subscript value slice pos) env) Q E s := by
  refine Subscript_ (wpAny_mono h (fun o s₁ h₁ => wpAny_mono h₁ (fun i s₂ h₂ => ?_) fun _ _ x => x) fun _ _ x => x)
  obtain ⟨hT, h₂⟩ := h₂
  unfold subscriptTail
  refine wpAny_bind ?_
  rw [getitemInPython_of_ne hT.not_modules]
  refine wpAny_bind (wpAny_specialOf hT hl ?_)
  have fin : wpAny (model prog w) A (subscripted slice false o i) (fun r s₃ => wpAny (model prog w) A (letTemporaryGo value o r >>= fun _ => pure r) Q E s₃) E s₂ := by
    rw [hs o i]
    exact wpAny_operating (wpAny_mono h₂ (fun r s₃ h₃ => wpAny_bind (wpAny_letTemporaryGo (wpAny_pure h₃))) fun _ _ x => x)
  first
    | exact wpAny_pure (wpAny_bind fin)
    | exact wpAny_bind (wpAny_pure (wpAny_bind fin))
    | exact wpAny_bind fin

theorem dict_typeIs {X : Cx} {pins : List (Addr × Obj)} {σ : St} {H : Hp} {s : Shared} {a : Addr} {y : V} {o : Option V} (I : Inv X pins σ H s) (g : DGet H a y o) : s.TypeIs (.ref a) "dict" := by
  rcases g with ⟨kvs, k, e, _, _⟩ | ⟨kvs, k, b, e, _, _, _⟩
  · obtain ⟨_, _, vs, _, dd⟩ := dk_rd I.hok e
    exact dd.typeIs
  · obtain ⟨_, _, xs, _, dd⟩ := dt_rd I.hok e
    exact dd.typeIs

/-- d[y] -/
noncomputable def tDGet (td ty : TE) : TE := fun σ H Q => td σ H fun x H1 => ty σ H1 fun y H2 => ∃ a v, x = .ref a ∧ DGet H2 a y (some v) ∧ Q v H2
/-- y in d, y not in d -/
noncomputable def tDIn (ty td : TE) : TE := fun σ H Q => ty σ H fun y H1 => td σ H1 fun x H2 => ∃ a o, x = .ref a ∧ DGet H2 a y o ∧ Q (.bl o.isSome) H2
noncomputable def tDNotIn (ty td : TE) : TE := fun σ H Q => ty σ H fun y H1 => td σ H1 fun x H2 => ∃ a o, x = .ref a ∧ DGet H2 a y o ∧ Q (.bl (!o.isSome)) H2
/-- d[y] = v -/
noncomputable def sDPut (td ty tv : TE) : TS := fun D σ H => tv σ H fun v H1 => td σ H1 fun x H2 => ty σ H2 fun y H3 => ∃ a H4, x = .ref a ∧ DPut H3 a y v H4 ∧ D.nx σ H4

section
variable {X : Cx} {o i e value : Expr} {pos pos' tpos : Pos} {td ty tv : TE}
theorem pe_dget (hu : X.A.units + 1 < cLine) (ho : PE X o td) (hi : PE X i ty) (hs : NoSl i) : PE X (.Subscript o i pos) (tDGet td ty) := by
  intro pins s σ H Q I h
  refine subD_of PySem.F.slot_dict_getitem.lookup hs (thn (ho pins s σ H _ I h) fun u s1 ⟨x, H1, I1, rx, q1⟩ => thn (hi pins s1 σ H1 _ I1 q1) fun iv s2 ⟨y, H2, I2, ry, a, v, ex, g, q2⟩ => ?_)
  subst ex
  obtain rfl : u = Value.ref a := rx
  exact ⟨dict_typeIs I2 g, d_getItem hu I2 g ry fun w' s3 I3 rw' => ⟨v, H2, I3, rw', q2⟩⟩
theorem pc_din (hu : X.A.units + 1 < cLine) (hi : PE X i ty) (ho : PE X o td) : PC X .In i o (tDIn ty td) := by
  intro pins s σ H Q I h
  refine thn (hi pins s σ H _ I h) fun iv s1 ⟨y, H1, I1, ry, q1⟩ => thn (ho pins s1 σ H1 _ I1 q1) fun u s2 ⟨x, H2, I2, rx, a, ov, ex, g, q2⟩ => ?_
  subst ex
  obtain rfl : u = Value.ref a := rx
  exact d_in hu I2 g ry fun s3 I3 => ⟨.bl ov.isSome, H2, I3, rfl, q2⟩
theorem pc_dnotin (hu : X.A.units + 1 < cLine) (hi : PE X i ty) (ho : PE X o td) : PC X .NotIn i o (tDNotIn ty td) := by
  intro pins s σ H Q I h
  refine thn (hi pins s σ H _ I h) fun iv s1 ⟨y, H1, I1, ry, q1⟩ => thn (ho pins s1 σ H1 _ I1 q1) fun u s2 ⟨x, H2, I2, rx, a, ov, ex, g, q2⟩ => ?_
  subst ex
  obtain rfl : u = Value.ref a := rx
  exact d_notIn hu I2 g ry fun s3 I3 => ⟨.bl (!ov.isSome), H2, I3, rfl, q2⟩
theorem ps_dput (hu : X.A.units + 1 < cLine) (ho : PE X o td) (hi : PE X i ty) (hv : PE X value tv) (hs : swapsWith value (some (.Subscript o i pos')) pos.line X.env = pure false) :
    PS X (.Assign [.Subscript o i pos'] value pos) (sDPut td ty tv) := by
  intro pins s σ H D I h
  refine wpAny_Assign_Subscript (thn (hv pins s σ H _ I h) fun r s1 ⟨v, H1, I1, rv, q1⟩ => thn (ho pins s1 σ H1 _ I1 q1) fun u s2 ⟨x, H2, I2, rx, q2⟩ => thn (hi pins s2 σ H2 _ I2 q2) fun iv s3 ⟨y, H3, I3, ry, a, H4, ex, g, q3⟩ => ?_) hs
  subst ex
  obtain rfl : u = Value.ref a := rx
  exact d_setItem hu I3 g ry rv fun s4 I4 => ⟨σ, H4, I4, q3⟩
end


/-! ### displays -/
theorem dk_empty {P : Program} {w : World} {H : Hp} (h : Heap) (hb : sysModules < h.objs.size) : ObjOk P w H (h.push { cls := .type "dict", data := .dict #[] }) h.objs.size (.dK []) :=
  ⟨Nat.zero_le _, beq_eq_false_iff_ne.mpr (Ne.symm (Nat.ne_of_lt hb)), [], .nil, Heap.DictOf.new h⟩
/-- {}, to be a dict of the kind that is wanted -/
noncomputable def tDNewK : TE := fun _ H Q => ∀ p, H p = none → Q (.ref p) (upd H p (.dK []))
section
variable {X : Cx} {pos : Pos}
theorem pe_dnewK : PE X (.Dict [] [] pos) tDNewK := fun pins s σ H Q I h =>
  wpAny_Dict_empty ⟨.ref s.heap.objs.size, _, I.laid (a := s.heap.objs.size) (o := .dK []) (t' := s.toks) (fun _ _ q => Heap.get?_push_of_some _ q) (Nat.le_refl _) (dk_empty s.heap I.big), rfl, h _ (I.hok.fresh (Nat.le_refl _))⟩
end

/-- the pairs of a display, from the left -/
noncomputable def tPairs : List (TE × TE) → St → Hp → (List (V × V) → Hp → Prop) → Prop
  | [], _, H, Q => Q [] H
  | (tk, tv) :: r, σ, H, Q => tk σ H fun x H1 => tv σ H1 fun y H2 => tPairs r σ H2 fun ps H3 => Q ((x, y) :: ps) H3
noncomputable abbrev VV : List (V × V) → List (Value × Value) → Prop := Paired fun p q => RelV p.1 q.1 ∧ RelV p.2 q.2
noncomputable def PPs (X : Cx) (pos : Pos) (keys : List (Option Expr)) (values : List Expr) (trs : List (TE × TE)) : Prop :=
  ∀ (pins : List (Addr × Obj)) (s : Shared) (σ : St) (H : Hp) (Q : List (V × V) → Hp → Prop), Inv X pins σ H s → tPairs trs σ H Q →
    wpAny (model X.prog X.w) X.A (evalPairs (pairTrees keys values X.env pos)) (fun vs s' => ∃ ps H', Inv X pins σ H' s' ∧ VV ps vs ∧ Q ps H') X.xe s
theorem pps_nil {X : Cx} {pos : Pos} : PPs X pos [] [] [] := fun pins s σ H Q I h => pairTrees_nil_walk ⟨[], H, I, .nil, h⟩
theorem pps_cons {X : Cx} {pos : Pos} {k v : Expr} {ks : List (Option Expr)} {vs : List Expr} {tk tv : TE} {trs : List (TE × TE)} (hk : PE X k tk) (hv : PE X v tv) (hr : PPs X pos ks vs trs) :
    PPs X pos (some k :: ks) (v :: vs) ((tk, tv) :: trs) := fun pins s σ H Q I h =>
  pairTrees_cons_walk (thn (hk pins s σ H _ I h) fun u s1 ⟨x, H1, I1, rx, q1⟩ => thn (hv pins s1 σ H1 _ I1 q1) fun w2 s2 ⟨y, H2, I2, ry, q2⟩ =>
    thn (hr pins s2 σ H2 _ I2 q2) fun ws s3 ⟨ps, H3, I3, rel, q3⟩ => ⟨(x, y) :: ps, H3, I3, .cons ⟨rx, ry⟩ rel, q3⟩)

noncomputable def mergeK (kvs more : List (Key × V)) : List (Key × V) := more.foldl (fun acc kv => putK acc kv.1 kv.2) kvs
theorem KV.merge : ∀ {more : List (Key × V)} {rs : List (Key × Value)} {kvs : List (Key × V)} {vs : List (Key × Value)}, KV more rs → KV kvs vs → KV (mergeK kvs more) (merged vs rs) := by
  intro more rs kvs vs r
  unfold KV at r
  induction r generalizing kvs vs with
  | nil => intro q; exact q
  | @cons p q ps qs h t ih =>
    intro r0
    have e : KV (putK kvs p.1 p.2) (stored vs q.1 q.2) := by
      have := r0.put p.1 h.2
      rw [← h.1]; exact this
    exact ih e
theorem length_mergeK : ∀ (more kvs : List (Key × V)), (mergeK kvs more).length ≤ kvs.length + more.length
  | [], kvs => by show kvs.length ≤ kvs.length + 0; omega
  | p :: r, kvs => by
    have h1 := length_mergeK r (putK kvs p.1 p.2)
    have h2 := length_putK kvs p.1 p.2
    show (mergeK (putK kvs p.1 p.2) r).length ≤ _
    rw [List.length_cons]; omega
theorem carries_of {P : Program} {w : World} : ∀ {kvs : List (Key × V)} {ws : List (Value × Value)}, VV (kvs.map fun kv => (kV kv.1, kv.2)) ws → ∃ rs, Carries (mixKind P w) ws rs ∧ KV kvs rs
  | [], _, r => by rw [List.map_nil] at r; cases r; exact ⟨[], True.intro, .nil⟩
  | p :: kvs, _, r => by
    rw [List.map_cons] at r
    cases r with
    | @cons a b as bs h t =>
      obtain ⟨rs, c, q⟩ := carries_of (P := P) (w := w) t
      obtain ⟨b1, b2⟩ := b
      exact ⟨(p.1, b2) :: rs, ⟨kV_is h.1, rfl, c⟩, .cons ⟨rfl, h.2⟩ q⟩
/-- {k: v, ..} with keys ints and texts; the new dict stands empty while the pairs are made -/
noncomputable def tDisp (trs : List (TE × TE)) : TE := fun σ H Q => ∀ p, H p = none → tPairs trs σ (upd H p (.dK [])) fun ps H2 => H2 p = some (.dK []) ∧ ∃ kvs : List (Key × V), ps = kvs.map (fun kv => (kV kv.1, kv.2)) ∧ kvs.length ≤ 15 ∧ Q (.ref p) (upd H2 p (.dK (mergeK [] kvs)))
theorem pe_disp {X : Cx} {pos : Pos} {keys : List (Option Expr)} {values : List Expr} {trs : List (TE × TE)} (h : PPs X pos keys values trs) (hall : keys.all (·.isSome) = true) (hl : keys.length = values.length) (h0 : keys ≠ [])
    (h15 : keys.length ≤ 15) : PE X (.Dict keys values pos) (tDisp trs) := by
  intro pins s σ H Q I q
  have hn := I.hok.fresh (Nat.le_refl s.heap.objs.size)
  have I1 := I.laid (a := s.heap.objs.size) (o := .dK []) (h' := s.heap.push { cls := .type "dict", data := .dict #[] }) (t' := s.toks) (fun _ _ q => Heap.get?_push_of_some _ q) (Nat.le_refl _) (dk_empty s.heap I.big)
  refine wpAny_Dict_walk (knd := mixKind X.prog X.w) hall hl h0 h15 (thn (h pins _ σ _ _ I1 (q _ hn)) fun ws s2 ⟨ps, H2, I2, rel, e, kvs, ep, lk, q2⟩ => ?_)
  subst ep
  obtain ⟨rs, c, rk⟩ := carries_of (P := X.prog) (w := X.w) rel
  obtain ⟨z, hd, vs0, r0, dd⟩ := dk_of I2.hok e
  cases r0
  refine ⟨rs, c, dd, fun h' dd' hs => ⟨.ref s.heap.objs.size, _, ?_, rfl, q2⟩⟩
  have hz : (mergeK [] kvs).length ≤ sizeLine := by
    have h1 := length_mergeK kvs []
    rw [List.length_nil] at h1
    rw [sizeLine_eq]; omega
  have he : ∃ q, h'.get? s.heap.objs.size = some q := let ⟨q, _, _, hq, _⟩ := dd'; ⟨q, hq⟩
  exact d_write I2 (by rw [e]; exact True.intro) hs he (dk_new hz hd (rk.merge .nil) dd')


/-! ### methods -/
/-- a method call o.m(e) of a built-in, with one argument: what must be seen of the text -/
structure M1 (X : Cx) (o : Expr) (m : Str) (apos : Pos) (e : Expr) (cpos : Pos) : Prop where
  base : attributeBase o m X.env (eval o X.env) = eval o X.env
  few : ((backTo cpos (starEach [e] X.env)).all (fun x => !x.1) && (backToKw cpos (keywordEach [] X.env)).all (fun x => x.1.isSome)
    && decide (([e] : List Expr).length + ([] : List Keyword).length + (if ([] : List Keyword).isEmpty then 0 else 1) < 30)) = true
  line : (apos.endLine == cpos.line) = true
  trees : backTo cpos (starEach [e] X.env) = [(false, eval e X.env)]

/-- a is a dict, whatever its keys -/
noncomputable def IsD (H : Hp) (a : Addr) : Prop := (∃ kvs, Rd H a (.dK kvs)) ∨ ∃ kvs, Rd H a (.dT kvs)
theorem isD_at {X : Cx} {pins : List (Addr × Obj)} {σ : St} {H : Hp} {s : Shared} {a : Addr} (I : Inv X pins σ H s) (d : IsD H a) :
    s.TypeIs (.ref a) "dict" ∧ (∀ b, Value.ref a = .ref b → ∃ ob, s.heap.get? b = some ob ∧ ob.dict = none) ∧ (a == sysModules) = false := by
  rcases d with ⟨kvs, e⟩ | ⟨kvs, e⟩
  · obtain ⟨_, hd, vs, _, dd⟩ := dk_rd I.hok e
    refine ⟨dd.typeIs, fun b q => ?_, hd⟩
    cases q
    obtain ⟨ob, _, _, h1, h2, _⟩ := dd
    exact ⟨ob, h1, h2.2.1⟩
  · obtain ⟨_, hd, xs, _, dd⟩ := dt_rd I.hok e
    refine ⟨dd.typeIs, fun b q => ?_, hd⟩
    cases q
    obtain ⟨ob, _, _, h1, h2, _⟩ := dd
    exact ⟨ob, h1, h2.2.1⟩

section
variable {X : Cx} {pins : List (Addr × Obj)} {σ : St} {H : Hp} {s : Shared} {a : Addr} {y d : V} {u r : Value} {o : Option V} {A : Around} {E : Value → Shared → Prop}
/-- d.get(y) -/
theorem d_get1 {Q : Value → Shared → Prop} (hu : A.units + 1 < cLine) (I : Inv X pins σ H s) (g : DGet H a y o) (ry : RelV y u) (h : ∀ w' s', Inv X pins σ H s' → RelV (o.getD .non) w' → Q w' s') :
    wpAny (model X.prog X.w) A (call (.builtin "dict.get") [.ref a, u]) Q E s := by
  rcases g with ⟨kvs, k, e, ey, l⟩ | ⟨kvs, k, b, e, ey, eb, l⟩
  · subst ey
    obtain ⟨z, hd, vs, rel, dd⟩ := dk_rd I.hok e
    refine call_meetsIn PySem.F.slot_dict_get dd.typeIs PySem.F.entry_dict_get (PySem.F.args_dict_get_2 _ _) (meets_dict_get (mixKind X.prog X.w) a (kV_is ry) hd) ⟨_, dd.mapOf, h _ _ (I.tok _) ?_⟩
    rw [l]
    exact (rel.val k).getD rfl
  · subst ey
    cases (show u = Value.ref b from ry)
    obtain ⟨z, hd, xs, rel, dd⟩ := dt_rd I.hok e
    refine call_meetsIn PySem.F.slot_dict_get dd.typeIs PySem.F.entry_dict_get (PySem.F.args_dict_get_2 _ _) (meetsH_dict_get (tupleKind (mixKind X.prog X.w)) a b hd) ⟨tupleKind_room_in1 hu, k, xs, key_of I.hok eb, dd, h _ _ (I.tok _) ?_⟩
    rw [l]
    exact (rel.val k).getD rfl
end

noncomputable def tDGet1 (td ty : TE) : TE := fun σ H Q => td σ H fun x H1 => ∃ a, x = .ref a ∧ IsD H1 a ∧ ty σ H1 fun y H2 => ∃ o, DGet H2 a y o ∧ Q (o.getD .non) H2
/-- d.pop(k): there; d.pop(k, x): there or not -/
noncomputable def tDPop1 (td ty : TE) : TE := fun σ H Q => td σ H fun x H1 => ∃ a, x = .ref a ∧ IsD H1 a ∧ ty σ H1 fun y H2 => ∃ kvs k v, H2 a = some (.dK kvs) ∧ y = kV k ∧ valV kvs k = some v ∧ Q v (upd H2 a (.dK (dropK kvs k)))
section
variable {X : Cx} {o e f : Expr} {apos cpos : Pos} {td ty tx : TE}
theorem pe_dget1 (hu : X.A.units + 1 < cLine) (ho : PE X o td) (he : PE X e ty) (m : M1 X o "get" apos e cpos) : PE X (.Call (.Attribute o "get" apos) [e] [] cpos) (tDGet1 td ty) := by
  intro pins s σ H Q I h
  refine wpAny_Call_method m.base m.few m.line PySem.F.plainAttrs_dict PySem.F.slot_dict_get PySem.F.type_dict_get (thn (ho pins s σ H _ I h) fun u s1 ⟨x, H1, I1, rx, a, ex, d, q1⟩ => ?_)
  subst ex
  obtain rfl : u = Value.ref a := rx
  obtain ⟨t1, t2, _⟩ := isD_at I1 d
  refine ⟨t1, t2, ?_⟩
  rw [m.trees]
  refine Calls.callWith_builtin rfl (Calls.evalArgs_plain (Calls.spliced_cons (thn (he pins s1 σ H1 _ I1 q1) fun iv s2 ⟨y, H2, I2, ry, ov, g, q2⟩ => Calls.spliced_nil ?_)))
  exact d_get1 hu I2 g ry fun w' s3 I3 rw' => ⟨_, H2, I3, rw', q2⟩
theorem pe_dpop1 (ho : PE X o td) (he : PE X e ty) (m : M1 X o "pop" apos e cpos) : PE X (.Call (.Attribute o "pop" apos) [e] [] cpos) (tDPop1 td ty) := by
  intro pins s σ H Q I h
  refine wpAny_Call_method m.base m.few m.line PySem.F.plainAttrs_dict PySem.F.slot_dict_pop PySem.F.type_dict_pop (thn (ho pins s σ H _ I h) fun u s1 ⟨x, H1, I1, rx, a, ex, d, q1⟩ => ?_)
  subst ex
  obtain rfl : u = Value.ref a := rx
  obtain ⟨t1, t2, _⟩ := isD_at I1 d
  refine ⟨t1, t2, ?_⟩
  rw [m.trees]
  refine Calls.callWith_builtin rfl (Calls.evalArgs_plain (Calls.spliced_cons (thn (he pins s1 σ H1 _ I1 q1) fun iv s2 ⟨y, H2, I2, ry, kvs, k, v, ea, ey, l, q2⟩ => Calls.spliced_nil ?_)))
  subst ey
  exact d_pop I2 ea ry l (.inl rfl) fun w' s3 I3 rw' => ⟨v, _, I3, rw', q2⟩
end

/-! ### dict(d): a copy -/
section
variable {X : Cx} {pins : List (Addr × Obj)} {σ : St} {H : Hp} {s : Shared} {a : Addr} {kvs : List (Key × V)} {A : Around} {E : Value → Shared → Prop}
end


section
variable {X : Cx} {pins : List (Addr × Obj)} {σ : St} {H : Hp} {s : Shared} {a : Addr} {y : V} {u : Value} {A : Around} {E : Value → Shared → Prop}
end
end L2

namespace Att
open PySem PySem.W PySem.Calls PyProof.Rows

/-! ### the script -/
theorem ints_of_wellAll {P : Params} {h : Heap} : ∀ (ns : List Int) (vs : List Value), WellAll P h vs (ns.map WData.int) → IntsAre vs ns := by
  intro ns
  induction ns with
  | nil =>
    intro vs w
    rw [List.map_nil] at w
    cases w
    exact .nil
  | cons n ns ih =>
    intro vs w
    rw [List.map_cons] at w
    cases w with
    | cons a b =>
      cases a
      exact .cons _ _ (ih _ b)

theorem script_of {l : OpenLaw} {n : Nat} (hn : l.most = some n) {P : Params} {h : Heap} {args : List WData} {vals : List Value}
    (hpre : l.row.toRowW.claim.pre args = true) (hwl : WellAll P h vals args) :
    ∃ a vs ns, vals = [Value.ref a] ∧ args = [WData.list (ns.map WData.int)] ∧ h.get? a = some { cls := .type "list", data := .seq vs.toArray } ∧ IntsAre vs ns ∧ ns.length ≤ n := by
  have hsh : WShape.hasAll [] args [.list .int] = true := (pre_splitW hpre).1
  have hc : l.pre.holds [] { args := args } = true := (pre_splitW hpre).2
  obtain ⟨d, r, rfl, h1, h2⟩ := hasAllW_cons hsh
  obtain rfl := hasAllW_nil h2
  obtain ⟨xs, rfl, h3⟩ := hasW_list h1
  obtain ⟨ns, rfl⟩ := items_int h3
  have hlen : ns.length ≤ n := by
    unfold OpenLaw.pre at hc
    have h4 : (WTm.not (.lt (.lit (.int (n : Int))) (.len (.arg 0)))).holds [] { args := [.list (ns.map .int)] } = true := by
      have h4 := (holds_andW hc).1
      rw [hn] at h4
      exact h4
    have h5 := condW_of h4 (w_not (w_lt w_lit (w_len_list (w_arg rfl))))
    rw [List.length_map] at h5
    refine Nat.le_of_not_lt fun q => ?_
    have q' : (n : Int) < ((ns.length : Nat) : Int) := by omega
    first
      | (rw [decide_eq_true q'] at h5; exact absurd h5 (by decide))
      | (simp at h5; omega)
  cases hwl with
  | cons w1 w2 =>
    cases w2
    cases w1 with
    | list ho hall => exact ⟨_, _, ns, rfl, rfl, ho, ints_of_wellAll ns _ hall, hlen⟩

theorem post_true (l : OpenLaw) (args : List WData) : l.row.toRowW.claim.post args (.bool true) args = true :=
  postW_of (r := l.row.toRowW) (X := (true == true))
    (show WShape.has [] (.bool true) .bool = true by first | rfl | decide | simp [WShape.has, WShape.arms, WShape.armsAll])
    (show (WTm.eq .res (.lit (.bool true))).value [] { args := args, res := some (.bool true), after := args } = some (.bool (true == true)) from w_eq_bool (w_res rfl) w_lit) rfl

/-! ### the attachment: holds_open's last premise (the goal 'hc' behind k_head) from a wpAny of the law's body -/

/-- the same from a codeAny of the CALL (for a layer whose function contracts speak of calls) -/
theorem attach_call {l : OpenLaw} {n : Nat} {q : Program} {loose : List Str} {XP : (Str → Option Value) → Heap → Prop} {YP : World → Heap → Prop} {d : DefRec}
    (hn : l.most = some n) (hdf : d.params.defaults = [])
    (call : ∀ (w : World) (s₀ s₁ : Shared) (mg mb : Str → Option Value) (fa : Addr) (o : Obj) (pm cd doc : Value) (a : Addr) (vs : List Value) (ns : List Int),
      Ground q loose [] XP w s₀ mg mb s₁.heap → YP w s₁.heap →
      s₁.heap.get? fa = some o → o.data = .func (docDef d.name d.params d.body d.scope pm cd doc) → s₁.heap.CodeRec cd d.name → mg d.name = some (.ref fa) →
      s₁.heap.get? a = some { cls := .type "list", data := .seq vs.toArray } → IntsAre vs ns → ns.length ≤ n → s₁.gens = #[] →
      codeAny (model l.prog w) callerA (.call (.ref fa) ⟨[.ref a], []⟩) (fun r s' => r = .ok (.ret (.bool true)) ∧ OldK s₁.heap s'.heap ∧ s'.os = s₁.os ∧ AllBare s'.gens) s₁) :
    WalkO q loose XP YP l.row.toRowW d [] (fun f vs => PySem.call f vs) := by
  intro w s₀ s₁ mg mb G Y fa o pm cd doc dV kV ho hd hcd hD hmg hg args vals as hpre hlay hrd hwl hlo
  obtain rfl : dV = .none := Dflts.none hD hdf
  obtain rfl : kV = .none := Dflts.noKw hD
  obtain ⟨a, vs, ns, rfl, rfl, hobj, hints, hlen⟩ := script_of hn hpre hwl
  refine enter_call (codeAny_mono (call w s₀ s₁ mg mb fa o pm cd doc a vs ns G Y ho (fd_plain hd) hcd hmg hobj hints hlen hg) fun r s' hq => ?_)
  obtain ⟨rfl, h2, h3, h4⟩ := hq
  exact ⟨.inl ⟨.bool true, .bool true, [], rfl, fun _ => rfl, .bool true, post_true l _, fun _ => ⟨List.Pairwise.nil, fun _ hm => (nomatch hm)⟩⟩, h2, h3, h4⟩


/-! ### rules over ANY heap (no ledger) from facts about the written part K: the library's own take a ledger (News) for what they write -/
section
variable {prog : Program} {w : World} {A : Around} {E : Value → Shared → Prop} {s : Shared} {K : Frag}





/-! the whole heap as the ledger: makes every rule that writes through a ledger a rule over any heap -/

end
end Att

namespace L2
open PySem PySem.Spec PyProof.Rows

theorem vals_ints : ∀ {vs : List Value} {ns : List Int}, IntsAre vs ns → Vals (ns.map V.int) vs
  | _, _, .nil => .nil
  | _, _, .cons n t h => .cons ⟨t, rfl⟩ (vals_ints h)

/-- nothing is tracked but the script, known to the object (or it is an object of the module) -/
noncomputable def Only (H : Hp) : Prop := ∀ b, H b = none ∨ ∃ o xs, H b = some (.frz o (.lst xs))

/-- THE HEAD: the law's promise, at the heap behind the top. F, the promise of the law's def, may use that base is part of the heap (so K.In base, base.Ns mainGlobals mg stand in Mod) -/
theorem law_call {P : Program} {w : World} {K : PySem.W.Frag} {mg mb : Str → Option Value} {CX : CXT} {k : Nat} {fa a : Addr} {fd : FuncData} {x : Str} {sp : Sp} {s₁ : Shared} {vs : List Value} {ns : List Int}
    (KX : K.In s₁.heap) (hns : s₁.heap.Ns mainGlobals mg) (hb : s₁.heap.Ns builtinsNs mb) (hbb : ∀ x : Str, x ≠ "__name__" → mb x = bootBuiltins x) (hlim : s₁.heap.NoLimit) (hg : s₁.gens = #[])
    (ha : s₁.heap.get? a = some { cls := .type "list", data := .seq vs.toArray }) (hi : IntsAre vs ns) (hl : ns.length ≤ sizeLine) (hr : Room k callerA)
    (F : ∀ base : Heap, K.In base → base.Ns mainGlobals mg → FnOk P w K mg base CX k fa fd [x] sp) (hbind : ∀ (s : Shared) (u : Value), BindsTo s fd ⟨[u], []⟩ [(x, u)])
    (hsp : ∀ H : Hp, Only H → SqL K H a (ns.map V.int) → sp [.ref a] H (fun v _ => v = .bl true) fun _ _ _ => False)
    (hCX : ∀ H e s', CX [] H s₁ (fun _ _ _ => False) e s' → False) :
    codeAny (model P w) callerA (.call (.ref fa) ⟨[.ref a], []⟩) (fun r s' => r = .ok (.ret (.bool true)) ∧ OldK s₁.heap s'.heap ∧ s'.os = s₁.os ∧ AllBare s'.gens) s₁ := by
  have rv := vals_ints hi
  have lenV := hi.length
  -- from an abstract heap in which nothing but the script may be tracked
  have core : ∀ H : Hp, Only H → SqL K H a (ns.map V.int) → HOk P w H s₁.heap → (∀ b, H b ≠ none → b = a) → (H a ≠ none → K.lookup a = none) →
      codeAny (model P w) callerA (.call (.ref fa) ⟨[.ref a], []⟩) (fun r s' => r = .ok (.ret (.bool true)) ∧ OldK s₁.heap s'.heap ∧ s'.os = s₁.os ∧ AllBare s'.gens) s₁ := by
    intro H hO hS hok hA hK
    have base_of : ∀ {b : Addr} {o : Obj}, s₁.heap.get? b = some o → H b = none → (hidT s₁.heap H).get? b = some o := fun e n => hidT_get e n
    have noA : ∀ {b : Addr} {o : Obj} {es : Array DictEntry} {ep : Nat}, s₁.heap.get? b = some o → o.data = .dict es ep → H b = none := fun {b o es ep} e d => by
      cases q : H b with
      | none => rfl
      | some u =>
        have e' : b = a := hA b (by rw [q]; simp)
        subst e'
        rw [ha] at e; cases e
        have d' : Data.seq vs.toArray _ = Data.dict es ep := d
        cases d'
    have nsK : ∀ {b : Addr} {m : Str → Option Value}, s₁.heap.Ns b m → (hidT s₁.heap H).Ns b m := fun {b m} ⟨o, es, ep, e, d, r⟩ => ⟨o, es, ep, base_of e (noA e d), d, r⟩
    have hKb : K.In (hidT s₁.heap H) := fun b o e => base_of (KX b o e) (by
      cases q : H b with
      | none => rfl
      | some u =>
        have e' : b = a := hA b (by rw [q]; simp)
        subst e'
        rw [hK (by rw [q]; simp)] at e; cases e)
    have hM : Mod K mg (hidT s₁.heap H) := ⟨hKb, nsK hns, ⟨mb, nsK hb, hbb⟩, let ⟨mc, h1, h2⟩ := hlim; ⟨mc, nsK h1, h2⟩⟩
    have e0 : Env0 P w K mg (hidT s₁.heap H) callerA [] s₁ H := ⟨rfl, hM, fun b o e => of_hidT e, Nat.le_of_eq (hidT_size _ _), trivial, fun b hb => absurd (show b ∈ ([] : List Addr) from hb) (by simp), hok, .of_eq hg⟩
    refine codeAny_mono ((F _ hKb (nsK hns)).run callerA [] s₁ H ⟨[.ref a], []⟩ [.ref a] [.ref a] _ _ hr e0 (hbind s₁ (.ref a)) (.cons rfl .nil) (hsp H hO hS)) fun r s' h => ?_
    cases r with
    | error e => exact (hCX H e s' h).elim
    | ok fl =>
      cases fl with
      | next => exact False.elim h
      | brk => exact False.elim h
      | cont => exact False.elim h
      | ret u =>
        obtain ⟨v, H', os, bare, un, hok', r', q⟩ := h
        have q' : v = .bl true := q
        subst q'
        obtain rfl : u = Value.bool true := r'
        refine ⟨rfl, OldK.of_keep fun b o e => ?_, os, bare⟩
        cases q : H b with
        | none => exact un.keep b o e q (by intro z; exact absurd (show b ∈ ([] : List Addr) from z) (by simp)) (by simp)
        | some u =>
          rcases hO b with z | ⟨ob, xs, z⟩
          · rw [q] at z; cases z
          · have z2 := un.frzs b ob _ z
            obtain ⟨e1, _⟩ := hok b _ z
            obtain ⟨e2, _⟩ := hok' b _ z2
            rw [e] at e1; cases e1
            exact e2
  cases hk : K.lookup a with
  | some o =>
    -- the script is one of the module's own objects
    have e := KX a o hk
    rw [ha] at e
    cases e
    refine core (fun _ => none) (fun _ => .inl rfl) (.inr ⟨_, vs.toArray, _, hk, rfl, rfl, rfl, by rw [List.size_toArray, lenV]; exact hl, by simpa using rv⟩) (fun b u z => by have z' : (none : Option HO) = some u := z; cases z') (fun b z => absurd rfl z) fun z => absurd rfl z
  | none =>
    refine core (fun b => if b = a then some (.frz { cls := .type "list", data := .seq vs.toArray } (.lst (ns.map V.int))) else none) (fun b => ?_) (.inl (.inr ⟨{ cls := .type "list", data := .seq vs.toArray }, if_pos rfl⟩)) (fun b u z => ?_) (fun b z => ?_) fun _ => hk
    · by_cases hb : b = a
      · exact .inr ⟨_, _, if_pos hb⟩
      · exact .inl (if_neg hb)
    · by_cases hb : b = a
      · have z' := (if_pos hb).symm.trans z
        cases z'
        subst hb
        exact ⟨ha, by rw [List.length_map]; exact hl, vs, _, rv, ha⟩
      · have z' := (if_neg hb).symm.trans z
        cases z'
    · by_cases hb : b = a
      · exact hb
      · exact absurd (if_neg hb) z
end L2

namespace L2
open PySem PySem.Spec PyProof.Rows


/-- the goal that k_head leaves (case hc), from the law's promise. F gives the function object fd (K's own) once, then the promise over every base -/
theorem walk_of {l : PySem.W.OpenLaw} {n k : Nat} {q : Program} {loose : List Str} {XP : (Str → Option Value) → Heap → Prop} {YP : World → Heap → Prop} {d : DefRec} {K : Params → PySem.W.Frag} {CX : World → CXT} {sp : World → Sp} {x : Str}
    (hn : l.most = some n) (hn2 : n ≤ sizeLine) (hdf : d.params.defaults = []) (hr : Room k callerA)
    (hY : ∀ (w : World) (h : Heap), YP w h → (K w.params).In h)
    (F : ∀ (w : World) (mg : Str → Option Value) (fa : Addr) (h : Heap), (K w.params).In h → h.Ns mainGlobals mg → mg d.name = some (.ref fa) →
      ∃ fd : FuncData, (∀ (s : Shared) (u : Value), BindsTo s fd ⟨[u], []⟩ [(x, u)]) ∧
        ∀ base : Heap, (K w.params).In base → base.Ns mainGlobals mg → FnOk l.prog w (K w.params) mg base (CX w) k fa fd [x] (sp w))
    (hsp : ∀ (w : World) (H : Hp) (a : Addr) (ns : List Int), ns.length ≤ n → Only H → SqL (K w.params) H a (ns.map V.int) → sp w [.ref a] H (fun v _ => v = .bl true) fun _ _ _ => False)
    (hCX : ∀ (w : World) (H : Hp) (s : Shared) (e : Value) (s' : Shared), CX w [] H s (fun _ _ _ => False) e s' → False) :
    PySem.W.WalkO q loose XP YP l.row.toRowW d [] (fun f vs => PySem.call f vs) := by
  refine Att.attach_call hn hdf fun w s₀ s₁ mg mb fa o pm cd doc a vs ns G Y ho hd hcd hmg hobj hints hlen hg => ?_
  have KX := hY w _ Y
  obtain ⟨fd, hb, hF⟩ := F w mg fa _ KX G.T.g hmg
  exact law_call KX G.T.g G.T.b G.T.builtins G.T.nolimit hg hobj hints (Nat.le_trans hlen hn2) hr hF hb (fun H hO hS => hsp w H a ns hlen hO hS) fun H e s' => hCX w H s₁ e s'
end L2

/- THE LAST THEOREM (shape; LID, My.* are yours):
   My.Adr: a structure of the addresses that your layer names (classes, functions); My.Txt K t: a structure (Prop) of the equations over K;
   My.txt_mk : {K} {implicit addresses ..} (e1 : nsIn K mainGlobals "law" = some (some (.ref f))) (e2 : K.lookup f = some ⟨oc, od, .func (fnOf "law" "law" params body scope dV kV doc pm an cdv ct), sl⟩) (e3 : codeIn K cdv "law" = true) .. : ∃ t, My.Txt K t

theorem PySem.Challenge.cw_LID_holds : PySem.Challenge.rw_LID.Holds := by
  w_on; o_law; k_head; (case hw => w_witness2)
  k_fill
  refine L2.walk_of (l := PySem.Challenge.rw_LID) (n := 63) (k := 40) (x := "script") (CX := fun w => ..) (sp := fun _ => My.sp_law) rfl (by decide) rfl ⟨rfl, by decide, by decide⟩ (fun w h Y => PySem.W.kIn_of Y) ?F ?S ?C
  case F =>
    intro w mg fa h KX G hmg
    have T : ∃ t, My.Txt (L2.KOf KX) t := by
      dsimp only [L2.KOf]                          -- K must stand as «<heap const> w.params» for k_is
      refine' My.txt_mk ?e1 ?e2 ?e3 ..
      (case e1 => PySem.W.k_is)                    -- in the order: a name -> its address -> its object -> its parts
      (case e2 => PySem.W.k_is)
      ..
    obtain ⟨t, T⟩ := T
    have e0 := hmg.symm.trans (PySem.W.mg_of KX G T.law)
    cases e0                                       -- fa is the law's own address
    exact ⟨_, fun s u => .of_eq rfl, fun base kb nb => My.law_fn T kb nb⟩     -- if «.of_eq rfl» comes too early: refine' ⟨_, ?b, fun base kb nb => My.law_fn T kb nb⟩; exact fun s u => .of_eq rfl
  case S => exact fun w H a ns hl hO hS => ..
  case C => exact ..
(the tactic k_is has no namespace: write k_is) -/

/-! SHORT WORDS over the layer: a def of the text, its body, what a loop and a test want. -/
namespace L2
open PySem PySem.Spec PyProof.Rows

/-! ### the text by places -/
noncomputable def defArgs (s : Stmt) : Arguments := match s with
  | .FunctionDef _ a _ _ _ _ _ _ _ _ => a
  | _ => { posonlyargs := [], args := [], vararg := none, kwonlyargs := [], kw_defaults := [], kwarg := none, defaults := [] }
noncomputable def defBody (s : Stmt) : List Stmt := match s with
  | .FunctionDef _ _ b _ _ _ _ _ _ _ => b
  | _ => []
noncomputable def defScope (s : Stmt) : Scope := match s with
  | .FunctionDef _ _ _ _ _ _ sc _ _ _ => sc
  | _ => { kind := .function, names := [], isGenerator := false, isCoroutine := false }

/-! ### no exception leaves a def -/
noncomputable abbrev CX0 : CXT := fun _ _ _ _ _ _ => False
noncomputable abbrev E0 : XK := fun _ _ _ => False
theorem pass0 {X : Cx} : Passes CX0 X E0 := fun _ _ _ _ _ _ _ h => h.elim

/-! ### a def (or method) of the text as it stands behind the top -/
structure Fun (K : PySem.W.Frag) (x qual : Str) (st : Stmt) (f : Addr) (fd : FuncData) : Prop where
  ex : ∃ (oc : Value) (od : Option Addr) (kV doc pm : Value) (an : Option Addr) (cdv ct : Value) (osl : Array (Option Value)),
    fd = PySem.W.fnOf x qual (defArgs st) (defBody st) (defScope st) .none kV doc pm an cdv ct ∧ K.lookup f = some ⟨oc, od, .func fd, osl⟩ ∧ PySem.W.codeIn K cdv qual = true
  kp : PySem.W.keepIn K (.ref f) = true
section
variable {P : Program} {w : World} {K : PySem.W.Frag} {mg : Str → Option Value} {base : Heap}
/-- THE RULE for a def: its body as a term of rules, and the reading of that term -/
theorem Fun.ok {x qual : Str} {st : Stmt} {f : Addr} {fd : FuncData} {N ps : List Str} {k : Nat} {sp : Sp} (F : Fun K x qual st f fd) (S : FnScope N ps (defScope st)) (len : ∀ vs H Q E, sp vs H Q E → vs.length = ps.length)
    (hbody : ∀ (cdv : Value) (A : Around) (outer : List Env) (s : Shared) (H : Hp) (vs : List V) (Q : VK) (E : XK), Room k (A.deeper (envOfC qual (defScope st) s.heap.objs.size f cdv)) → sp vs H Q E →
      ∃ t, PSs (cxOf CX0 P w K mg base N qual (defScope st) f cdv A outer s H E).nox (defBody st) t ∧ t { nx := fun _ H' => Q .non H', rt := Q } (start N vs) H) : FnOk P w K mg base CX0 (k + 1) f fd ps sp := by
  obtain ⟨oc, od, kV, doc, pm, an, cdv, ct, osl, rfl, lk, hcd⟩ := F.ex
  refine fn_of lk hcd S len fun A outer s H vs Q E hr hsp => ?_
  obtain ⟨t, h, q⟩ := hbody cdv A outer s H vs Q E hr hsp
  exact ⟨t, h.nox, q⟩
theorem fun_mk {x qual : Str} {st : Stmt} {f : Addr} {oc : Value} {od an : Option Addr} {osl : Array (Option Value)} {kV doc pm cdv ct : Value} (l : K.lookup f = some ⟨oc, od, .func (PySem.W.fnOf x qual (defArgs st) (defBody st) (defScope st) .none kV doc pm an cdv ct), osl⟩)
    (c : PySem.W.codeIn K cdv qual = true) (k : PySem.W.keepIn K (.ref f) = true) : Fun K x qual st f (PySem.W.fnOf x qual (defArgs st) (defBody st) (defScope st) .none kV doc pm an cdv ct) := ⟨⟨oc, od, kV, doc, pm, an, cdv, ct, osl, rfl, l, c⟩, k⟩
end
theorem hu_of {A : Around} {k : Nat} (hr : Room k A) : A.units + 1 < cLine := Nat.lt_of_le_of_lt (Nat.add_le_add_left (by decide : 1 ≤ 64) _) hr.units
theorem small1000 {n : Nat} (h : n ≤ 1000) : n < sizeLine := Nat.lt_of_le_of_lt h (by decide)

/-! ### expressions in short: the name that stands in the i-th slot -/
section
variable {X : Cx}
/-- len of a dict -/
theorem call_lenD : CallR X (.builtin "len") (fun xs H Q => ∃ a kvs, xs = [V.ref a] ∧ H a = some (.dK kvs) ∧ Q (.int kvs.length) H) := by
  intro pins s σ H xs us Q I r h
  obtain ⟨a, kvs, rfl, ha, q⟩ := h
  obtain ⟨u, rfl, ru⟩ := vals1 r
  cases ru
  exact d_len I (.inl ha) fun t s' I' => ⟨.int kvs.length, H, I', ⟨t, rfl⟩, q⟩
end

/-! ### tests -/
theorem ite2 {c A B : Prop} [Decidable c] (h1 : c → A) (h2 : ¬ c → B) : if c then A else B := by
  by_cases h : c
  · rw [if_pos h]
    exact h1 h
  · rw [if_neg h]
    exact h2 h

/-! ### heaps -/
/-- all that was tracked is as it was -/
noncomputable def Same (H H' : Hp) : Prop := ∀ b o, H b = some o → H' b = some o
theorem Same.refl (H : Hp) : Same H H := fun _ _ h => h
theorem Same.trans {H H1 H2 : Hp} (a : Same H H1) (b : Same H1 H2) : Same H H2 := fun c o h => b c o (a c o h)

/-! ### a dict's pairs: keys that differ -/
section
variable {κ : Type} [DecidableEq κ]
end
end L2


set_option maxRecDepth 100000
namespace L2
open PySem PySem.Spec PyProof.Rows

/-! ### list comprehensions with one clause -/
/-- the cells that a comprehension's block is handed -/
noncomputable def ccl (sc : Scope) (env : Env) : List (Str × Addr) := (sc.names.filterMap fun p => if p.2 == .free then (env.cells.lookup p.1).map fun c => (p.1, c) else none).reverse

theorem forIn_cells {env : Env} : ∀ (l : List (Str × NameKind)) (acc : List (Str × Addr)), (∀ p ∈ l, p.2 = .free → ∃ c, env.cells.lookup p.1 = some c) →
    (forIn l acc fun (x : Str × NameKind) r => match x with | (name, kind) => (if (kind == NameKind.free) = true then do let a ← cellOf env name; pure (ForInStep.yield ((name, a) :: r)) else pure (ForInStep.yield r) : Sem _)) =
      pure ((l.filterMap fun p => if p.2 == .free then (env.cells.lookup p.1).map fun c => (p.1, c) else none).reverse ++ acc)
  | [], acc, _ => rfl
  | (n, k) :: r, acc, h => by
    rw [List.forIn_cons]
    have hr : ∀ p ∈ r, p.2 = .free → ∃ c, env.cells.lookup p.1 = some c := fun p hp => h p (List.mem_cons_of_mem _ hp)
    by_cases hk : k = .free
    · subst hk
      obtain ⟨c, hc⟩ := h (n, .free) List.mem_cons_self rfl
      have e1 : cellOf env n = pure c := by unfold cellOf; rw [hc]
      simp only [beq_self_eq_true, if_true, e1, pure_bind]
      rw [forIn_cells r _ hr]
      simp [List.filterMap_cons, hc]
    · have hb : (k == NameKind.free) = false := by simpa using hk
      simp only [hb, Bool.false_eq_true, if_false, pure_bind]
      rw [forIn_cells r _ hr]
      simp [List.filterMap_cons, hk]
theorem closure_ccl {sc : Scope} {env : Env} (h : ∀ p ∈ sc.names, p.2 = .free → ∃ c, env.cells.lookup p.1 = some c) : closureFor sc env = pure (ccl sc env) := by
  unfold closureFor
  have q := forIn_cells (env := env) sc.names [] h
  rw [List.append_nil] at q
  unfold ccl
  rw [← q, bind_pure]

theorem lookup_revmap {f : Str → Option Addr} : ∀ (l : List (Str × NameKind)) (x : Str) (c : Addr),
    (l.filterMap fun p => if p.2 == .free then (f p.1).map fun c => (p.1, c) else none).reverse.lookup x = some c → f x = some c := by
  intro l x c h
  have hm := PySem.mem_of_lookup h
  rw [List.mem_reverse, List.mem_filterMap] at hm
  obtain ⟨p, _, e⟩ := hm
  split at e
  · cases q : f p.1 with
    | none => rw [q] at e; cases e
    | some d =>
      rw [q] at e
      simp only [Option.map_some, Option.some.injEq, Prod.mk.injEq] at e
      obtain ⟨e1, e2⟩ := e
      rw [← e1, q, e2]
  · cases e
theorem lookup_some_of_mem {β : Type} : ∀ {l : List (Str × β)} {x : Str} {c : β}, (x, c) ∈ l → ∃ d, l.lookup x = some d
  | [], _, _, h => nomatch h
  | (n, d) :: r, x, c, h => by
    by_cases e : x = n
    · subst e; exact ⟨d, by simp [List.lookup_cons]⟩
    · have hb : (x == n) = false := by simpa using e
      rcases List.mem_cons.mp h with q | q
      · cases q; exact absurd rfl e
      · obtain ⟨d', hd⟩ := lookup_some_of_mem q
        exact ⟨d', by simp [List.lookup_cons, hb, hd]⟩
theorem ccl_sub {sc : Scope} {env : Env} {x : Str} {c : Addr} (h : (ccl sc env).lookup x = some c) : env.cells.lookup x = some c := lookup_revmap (f := fun n => env.cells.lookup n) sc.names x c h
theorem ccl_has {sc : Scope} {env : Env} {x : Str} {c : Addr} (hx : (x, NameKind.free) ∈ sc.names) (hc : env.cells.lookup x = some c) : (ccl sc env).lookup x = some c := by
  have hm : (x, c) ∈ ccl sc env := by
    unfold ccl
    rw [List.mem_reverse, List.mem_filterMap]
    exact ⟨(x, .free), hx, by simp [hc]⟩
  obtain ⟨d, hd⟩ := lookup_some_of_mem hm
  have := ccl_sub hd
  rw [hc] at this
  rw [hd, this]

theorem relabel_cases {env : Env} : ∀ {names : List (Str × NameKind)} {x : Str} {k : NameKind},
    (names.map fun (n, k) => if (k == NameKind.free && env.scope.kind == .function && env.kindOf n == some .cell) then (n, NameKind.cell) else (n, k)).lookup x = some k →
    names.lookup x = some k ∨ (k = .cell ∧ names.lookup x = some .free)
  | [], _, _, h => by simp at h
  | (n, q) :: r, x, k, h => by
    have ih := @relabel_cases env r x k
    rw [List.map_cons] at h
    cases hx : x == n with
    | true =>
      by_cases hc : (q == NameKind.free && env.scope.kind == .function && env.kindOf n == some .cell) = true
      · simp only [hc, if_true, List.lookup_cons, hx, Option.some.injEq] at h
        have hq : q = .free := by
          have := (Bool.and_eq_true _ _ ▸ (Bool.and_eq_true _ _ ▸ hc).1).1
          simpa using this
        subst hq
        exact .inr ⟨h.symm, by simp [List.lookup_cons, hx]⟩
      · simp only [hc, if_false, List.lookup_cons, hx, Option.some.injEq, Bool.false_eq_true] at h
        subst h
        exact .inl (by simp [List.lookup_cons, hx])
    | false =>
      have h' : (r.map fun (n, k) => if (k == NameKind.free && env.scope.kind == .function && env.kindOf n == some .cell) then (n, NameKind.cell) else (n, k)).lookup x = some k := by
        by_cases hc : (q == NameKind.free && env.scope.kind == .function && env.kindOf n == some .cell) = true
        · simpa only [hc, if_true, List.lookup_cons, hx] using h
        · simpa only [hc, if_false, List.lookup_cons, hx, Bool.false_eq_true] using h
      rcases ih h' with z | ⟨z1, z2⟩
      · exact .inl (by simp [List.lookup_cons, hx, z])
      · exact .inr ⟨z1, by simp [List.lookup_cons, hx, z2]⟩
theorem relabel_free {env : Env} : ∀ {names : List (Str × NameKind)} {x : Str}, names.lookup x = some .free →
    (names.map fun (n, k) => if (k == NameKind.free && env.scope.kind == .function && env.kindOf n == some .cell) then (n, NameKind.cell) else (n, k)).lookup x = some .cell ∨
    (names.map fun (n, k) => if (k == NameKind.free && env.scope.kind == .function && env.kindOf n == some .cell) then (n, NameKind.cell) else (n, k)).lookup x = some .free
  | [], _, h => by simp at h
  | (n, q) :: r, x, h => by
    have ih := @relabel_free env r x
    rw [List.map_cons]
    cases hx : x == n with
    | true =>
      simp only [List.lookup_cons, hx, Option.some.injEq] at h
      subst h
      by_cases hc : (NameKind.free == NameKind.free && env.scope.kind == .function && env.kindOf n == some .cell) = true
      · exact .inl (by simp only [hc, if_true, List.lookup_cons, hx])
      · exact .inr (by simp only [hc, if_false, List.lookup_cons, hx, Bool.false_eq_true])
    | false =>
      simp only [List.lookup_cons, hx] at h
      by_cases hc : (q == NameKind.free && env.scope.kind == .function && env.kindOf n == some .cell) = true
      · simpa only [hc, if_true, List.lookup_cons, hx] using ih h
      · simpa only [hc, if_false, List.lookup_cons, hx, Bool.false_eq_true] using ih h

/-- the block's context -/
noncomputable def cxComp (X : Cx) (N : List Str) (sc : Scope) (pins : List (Addr × Obj)) (C : Addr) (s₀ : Shared) (H₀ : Hp) (fp : List Addr) : Cx :=
  { X with N := N, s₀ := s₀, H₀ := H₀, env := compEnvC sc (ccl sc X.env) C X.env, outer := X.stack, ex := fp, fn := fun _ => false, pn := X.pn ++ pins, xe := fun _ _ => False }

/-- the scope of a comprehension: n own names, then the free ones; fr: their places among the names around -/
structure CScope (X : Cx) (n : Nat) (fr : List Nat) (N : List Str) (sc : Scope) : Prop where
  kind : sc.kind = .function
  nocell : ∀ p ∈ sc.names, p.2 ≠ .cell
  own : ∀ p ∈ sc.names, p.2 = .local → sc.names.lookup p.1 = some .local
  out : ∀ p ∈ sc.names, p.2 = .free → X.env.kindOf p.1 = some .cell ∨ X.env.kindOf p.1 = some .free
  len : N.length = n + fr.length
  free : ∀ i x, N[n + i]? = some x → (x, NameKind.free) ∈ sc.names ∧ sc.names.lookup x = some .free ∧ ∃ j, fr[i]? = some j ∧ X.N[j]? = some x
/-- .. by what is written (CScope0) -/
noncomputable def CS0 (scX : Scope) (NX : List Str) (n : Nat) (fr : List Nat) (N : List Str) (sc : Scope) : Prop :=
  sc.kind = .function ∧ (∀ p ∈ sc.names, p.2 ≠ .cell) ∧ (∀ p ∈ sc.names, p.2 = .local → sc.names.lookup p.1 = some .local) ∧
  (∀ p ∈ sc.names, p.2 = .free → scX.names.lookup p.1 = some .cell ∨ scX.names.lookup p.1 = some .free) ∧ N.length = n + fr.length ∧
  (∀ x ∈ N.drop n, (x, NameKind.free) ∈ sc.names ∧ sc.names.lookup x = some .free) ∧ (N.drop n).map some = fr.map fun j => NX[j]?
instance {scX : Scope} {NX : List Str} {n : Nat} {fr : List Nat} {N : List Str} {sc : Scope} : Decidable (CS0 scX NX n fr N sc) := by unfold CS0; exact inferInstance
theorem cs_mk {X : Cx} {scX : Scope} {NX : List Str} {n : Nat} {fr : List Nat} {N : List Str} {sc : Scope} (h1 : X.env.scope = scX) (h2 : X.N = NX) (h : CS0 scX NX n fr N sc) : CScope X n fr N sc := by
  obtain ⟨a, b, c, d, e, f, g⟩ := h
  refine ⟨a, b, c, fun p hp z => ?_, e, fun i x hx => ?_⟩
  · have q := d p hp z
    rw [← h1] at q
    exact q
  · have hd : (N.drop n)[i]? = some x := by rw [List.getElem?_drop]; exact hx
    obtain ⟨f1, f2⟩ := f x (List.mem_of_getElem? hd)
    refine ⟨f1, f2, ?_⟩
    have q : ((N.drop n).map some)[i]? = some (some x) := by rw [List.getElem?_map, hd]; rfl
    rw [g, List.getElem?_map] at q
    cases z : fr[i]? with
    | none => rw [z] at q; cases q
    | some j =>
      rw [z] at q
      refine ⟨j, rfl, ?_⟩
      rw [h2]
      exact Option.some.inj q
noncomputable def cst (n : Nat) (fr : List Nat) (σ : St) : St := List.replicate n none ++ fr.map fun j => (σ[j]?).getD none

theorem closure_ok {X : Cx} {n : Nat} {fr : List Nat} {N : List Str} {sc : Scope} (S : CScope X n fr N sc) (ok : X.Ok) : closureFor sc X.env = pure (ccl sc X.env) :=
  closure_ccl fun p hp e => ok.has p.1 (S.out p hp e)

section
variable {X : Cx} {n : Nat} {fr : List Nat} {N : List Str} {sc : Scope} {pins : List (Addr × Obj)} {σ : St} {H : Hp} {s : Shared} {fp : List Addr} {h₁ : Heap} {tk : Nat}

theorem comp_start (S : CScope X n fr N sc) (I : Inv X pins σ H s) (hf : ∀ b ∈ fp, FpOk X pins H b) (hlt : ∀ b ∈ fp, b < s.heap.objs.size)
    (hn : h₁.Ns s.heap.objs.size (fun _ => none)) (hk : ∀ b o, s.heap.get? b = some o → h₁.get? b = some o) :
    Inv (cxComp X N sc pins s.heap.objs.size s H fp) [] (cst n fr σ) H { s with heap := h₁, toks := tk } := by
  have hsub : ∀ b ∈ frs X.stack, b ∈ X.env.locals :: X.fs := I.stkSub
  refine ⟨⟨I.ok.mod, ?_, I.ok.glob, I.ok.blt, Nat.le_refl _, fun x y c h1 h2 => ?_, fun x hx => ?_, fun x c z => (by cases z), I.ok.hd, I.ok.frames, .inl rfl, fun b hb => ⟨?_, fun x c e => ?_⟩, fun b o e => I.bs b o e, Nat.le_trans I.ok.bsz I.sz, fun b o e hb => ?_, fun b hb hz => ?_, I.stack, I.stkFree⟩,
    rfl, I.bare, Un.kept hk, ⟨_, hn, fun i x v e1 e2 e3 => ?_⟩, fun x c e => ?_, I.hok.fresh (Nat.le_refl _), fun x c e => ?_, fun p hp => ?_, I.hok.kept hk, ?_⟩
  · exact S.kind
  · exact I.ok.inj x y c (ccl_sub h1) (ccl_sub h2)
  · have hx' : (relabel sc X.env).names.lookup x = some .cell ∨ (relabel sc X.env).names.lookup x = some .free := hx
    have fr' : sc.names.lookup x = some .free := by
      rcases hx' with z | z
      · rcases relabel_cases z with q | ⟨_, q⟩
        · exact absurd rfl (S.nocell _ (PySem.mem_of_lookup q))
        · exact q
      · rcases relabel_cases z with q | ⟨q, _⟩
        · exact q
        · cases q
    obtain ⟨c, hc⟩ := I.ok.has x (S.out _ (PySem.mem_of_lookup fr') rfl)
    exact ⟨c, ccl_has (PySem.mem_of_lookup fr') hc⟩
  · exact Nat.ne_of_lt (hlt b hb)
  · exact (hf b hb).2.2.2.2.1 x c (ccl_sub e)
  · rcases (hf b hb).2.2.2.1 with z | z
    · exact I.ok.noex b o e z
    · exact absurd (Nat.lt_of_lt_of_le (Heap.lt_size e) (Nat.le_trans I.ok.bsz z)) (Nat.lt_irrefl _)
  · rcases List.mem_cons.mp (hsub b hz) with z | z
    · exact (hf b hb).2.1 z
    · exact (hf b hb).2.2.1 z
  · have e1' : N[i]? = some x := e1
    have hi : n ≤ i := by
      apply Nat.le_of_not_lt
      intro hlt
      unfold cst at e2
      rw [List.getElem?_append_left (by simpa using hlt), List.getElem?_replicate] at e2
      split at e2 <;> cases e2
    obtain ⟨j, rfl⟩ : ∃ j, i = n + j := ⟨i - n, by omega⟩
    obtain ⟨hm, hl, q, hq, hX⟩ := S.free j x e1'
    have e2' : (σ[q]?).getD none = some v := by
      unfold cst at e2
      rw [List.getElem?_append_right (by simp)] at e2
      simp only [List.length_replicate, Nat.add_sub_cancel_left, List.getElem?_map, hq, Option.map_some, Option.some.injEq] at e2
      exact e2
    have hσ : σ[q]? = some (some v) := by
      cases z : σ[q]? with
      | none => rw [z] at e2'; cases e2'
      | some w => rw [z] at e2'; simp only [Option.getD_some] at e2'; rw [e2']
    have ko := S.out _ hm rfl
    have hv : Vis X.env.scope x := by
      rcases ko with z | z
      · exact .inr (.inl z)
      · exact .inr (.inr z)
    obtain ⟨m, _, hloc⟩ := I.loc
    obtain ⟨u, r, l⟩ := hloc q x v hX hσ hv
    refine ⟨u, r, .inr ⟨?_, ?_⟩⟩
    · exact relabel_free hl
    · rcases l with ⟨k, _⟩ | ⟨_, c, hc, hcell⟩
      · rcases ko with z | z <;> (rw [k] at z; cases z)
      · refine ⟨c, ccl_has hm hc, ?_⟩
        obtain ⟨o, ho, hd⟩ := hcell
        exact ⟨o, hk c o ho, hd⟩
  · obtain ⟨v, o, ho, hd⟩ := I.cell x c (ccl_sub e)
    exact ⟨v, o, hk c o ho, hd⟩
  · exact I.freeC x c (ccl_sub e)
  · have hp' : p ∈ X.pn ++ pins := by
      have z : p ∈ (X.pn ++ pins) ++ [] := hp
      rwa [List.append_nil] at z
    obtain ⟨e, hn', ne, nf, d⟩ := I.pin p hp'
    refine ⟨hk p.1 p.2 e, hn', Nat.ne_of_lt (Heap.lt_size e), fun hz => ?_, d⟩
    rcases List.mem_cons.mp (hsub p.1 hz) with z | z
    · exact ne z
    · exact nf z
  · show (cst n fr σ).length = N.length
    unfold cst
    rw [List.length_append, List.length_replicate, List.length_map, S.len]

/-- back from the block -/
theorem comp_back {C : Addr} {σ' : St} {H' : Hp} {s' : Shared} {pins' : List (Addr × Obj)} (I : Inv X pins σ H s) (hf : ∀ b ∈ fp, FpOk X pins H b) (J : Inv (cxComp X N sc pins C s H fp) pins' σ' H' s') : Inv X pins σ H' s' :=
  I.call' (ch := fp) J.os J.base J.hok J.bare fun b hb => ⟨(hf b hb).2.2.2.1, (hf b hb).2.1, (hf b hb).2.2.2.2.1, (hf b hb).2.2.2.2.2⟩
end

/-- the clause's tests -/
noncomputable def PIfs (X : Cx) (ifs : List Expr) (t : TT) : Prop :=
  ∀ (pins : List (Addr × Obj)) (s : Shared) (σ : St) (H : Hp) (Q : Bool → Hp → Prop), Inv X pins σ H s → t σ H Q →
    wpAny (model X.prog X.w) X.A (forIn ifs true fun c r => if r = true then do let ok ← isTrue c X.env (eval c X.env); pure (ForInStep.yield ok) else pure (ForInStep.yield r)) (TP X pins σ Q) X.xe s
noncomputable def tTrue : TT := fun _ H Q => Q true H
theorem pifs_nil {X : Cx} : PIfs X [] tTrue := fun _ _ _ H _ I h => wpAny_pure ⟨H, I, h⟩
theorem pifs_one {X : Cx} {c : Expr} {t : TT} (hc : PT X c t) : PIfs X [c] t := by
  intro pins s σ H Q I h
  rw [List.forIn_cons]
  refine wpAny_bind ?_
  rw [if_pos rfl]
  refine wpAny_bind (thn (hc pins s σ H Q I h) fun b s1 q => wpAny_pure ?_)
  exact wpAny_pure q

/-- the turns of a comprehension that fills the list at D, from the names σ and the heap H on -/
noncomputable def CompW (J : It) (g : TG) (tc : TT) (te : TE) (D : Addr) (σ : St) (H : Hp) (Q : VK) : Prop :=
  ∃ W : Nat → Nat → St → Hp → Prop, (∃ m, W 0 m σ H) ∧ ∀ i m σ' H', W i m σ' H' →
    (J.stop i H' ∧ Q (.ref D) H') ∨ (J.go i H' ∧ ∃ N : St → Hp → Prop, (∀ σ3 H3, N σ3 H3 → ∃ m', m' < m ∧ W (i + 1) m' σ3 H3) ∧ ∀ x H2, J.yld i H' x H2 → g x σ' H2 fun σ3 H3 => tc σ3 H3 fun b H4 =>
      if b = true then te σ3 H4 fun y H5 => ∃ ys, H5 D = some (.lst ys) ∧ ys.length < sizeLine ∧ N σ3 (upd H5 D (.lst (ys ++ [y])))
      else N σ3 H4)
/-- a comprehension's reading -/
noncomputable def tComp (wi : TI) (n : Nat) (fr : List Nat) (g : TG) (tc : TT) (te : TE) : TE := fun σ H Q => wi σ H fun J H1 => ∀ D, H1 D = none → CompW J g tc te D (cst n fr σ) (upd H1 D (.lst [])) Q

section
variable {X : Cx} {n : Nat} {fr : List Nat} {N : List Str} {sc : Scope} {elt tg iter : Expr} {ifs : List Expr} {pos : Pos} {wi : TI} {g : TG} {tc : TT} {te : TE}

theorem comp_run {pins : List (Addr × Obj)} {σ : St} {H : Hp} {s : Shared} {fp : List Addr} {it : Addr} {tn : Nat → Heap → Prop} {J : It} {Q : VK} {E : Value → Shared → Prop} {RR : Value → Addr → Result → Shared → Prop}
    (hc : X.calm = true) (S : CScope X n fr N sc)
    (hg : ∀ C s₀ H₀ fp, PG (cxComp X N sc pins C s₀ H₀ fp) tg g) (hi : ∀ C s₀ H₀ fp, PIfs (cxComp X N sc pins C s₀ H₀ fp) ifs tc) (he : ∀ C s₀ H₀ fp, PE (cxComp X N sc pins C s₀ H₀ fp) elt te)
    (I : Inv X pins σ H s) (T : Turn X.prog X.w X.K tg J fp it tn) (st : tn 0 s.heap) (hf : ∀ b ∈ fp, FpOk X pins H b)
    (h : ∀ D, H D = none → CompW J g tc te D (cst n fr σ) (upd H D (.lst [])) Q)
    (hR : ∀ D C H' s', Inv X pins σ H' s' → FpOk X pins H' C → (∃ m, s'.heap.Ns C m) → Q (.ref D) H' → RR (.ref D) C (.ok .next) s') :
    wpAny (model X.prog X.w) X.A (newList []) (fun acc s₃ => wpAny (model X.prog X.w) X.A (newFunctionEnv sc X.env.globals (ccl sc X.env) [] X.env.qual none .none (some X.env)) (fun cenv s₄ =>
      codeAny (model X.prog X.w) X.A (.compStart (.ListComp elt [⟨tg, iter, ifs, 0⟩] sc pos) 0 (.ref it) acc { cenv with scope := relabel sc X.env }) (RR acc cenv.locals) s₄) E s₃) E s := by
  have hfree : H s.heap.objs.size = none := I.hok.fresh (Nat.le_refl _)
  have hltf : ∀ b ∈ fp, b < s.heap.objs.size := fun b hb => by
    obtain ⟨o, e, _⟩ := T.obj 0 s.heap st b hb
    exact Heap.lt_size e
  obtain ⟨W, ⟨m0, w0⟩, turn⟩ := h s.heap.objs.size hfree
  refine wpAny_newObj_type (wpAny_newFunctionEnv S.nocell (by intro y hy; simp at hy) (fun h₁ hns₁ hsb₁ => ?_) S.kind)
  dsimp only at hns₁ hsb₁ ⊢
  have I3 : Inv X pins σ (upd H s.heap.objs.size (.lst [])) { s with heap := s.heap.push { cls := .type "list", dict := none, data := .seq ([] : List Value).toArray } } :=
    I.laid (t' := s.toks) (fun b u e => Heap.get?_push_of_some _ e) (Nat.le_refl _) ⟨Nat.zero_le _, [], 0, .nil, Heap.get?_push_size _ rfl⟩
  have hf3 : ∀ b ∈ fp, FpOk X pins (upd H s.heap.objs.size (.lst [])) b := fun b hb => ⟨by rw [upd_ne (Nat.ne_of_lt (hltf b hb))]; exact (hf b hb).1, (hf b hb).2⟩
  generalize hs3 : ({ s with heap := s.heap.push { cls := .type "list", dict := none, data := .seq ([] : List Value).toArray } } : Shared) = s3 at *
  have e3 : s3.heap = s.heap.push { cls := .type "list", dict := none, data := .seq ([] : List Value).toArray } := by rw [← hs3]
  have et : s3.toks = s.toks := by rw [← hs3]
  have hlt3 : ∀ b ∈ fp, b < s3.heap.objs.size := fun b hb => by rw [e3, Heap.size_push]; exact Nat.lt_succ_of_lt (hltf b hb)
  have hk3 : ∀ b o, s3.heap.get? b = some o → h₁.get? b = some o := fun b o e => hsb₁.extBut b o (by rw [← e3]; exact Nat.ne_of_lt (Heap.lt_size e)) (by rw [← e3]; exact Heap.get?_push_of_some _ e)
  have hns3 : h₁.Ns s3.heap.objs.size (fun _ => none) := by rw [e3]; exact hns₁
  have I4 := comp_start (tk := s.toks + ([] : List (Str × Value)).length) S I3 hf3 hlt3 hns3 hk3
  have hDk : ∀ b o, s.heap.get? b = some o → h₁.get? b = some o := fun b o e => hk3 b o (by rw [e3]; exact Heap.get?_push_of_some _ e)
  have st4 : tn 0 h₁ := T.keep 0 s.heap h₁ st fun b hb o e => hDk b o e
  have hfX : ∀ {H' : Hp}, (∀ b ∈ fp, H' b = none) → ∀ b ∈ fp, FpOk (cxComp X N sc pins s3.heap.objs.size s3 (upd H s.heap.objs.size (.lst [])) fp) [] H' b := fun {H'} hn b hb => by
    refine ⟨hn b hb, Nat.ne_of_lt (hlt3 b hb), fun z => ?_, .inl hb, fun x c e => (hf3 b hb).2.2.2.2.1 x c (ccl_sub e), fun p hp => ?_⟩
    · rcases List.mem_cons.mp (I3.stkSub b z) with q | q
      · exact (hf3 b hb).2.1 q
      · exact (hf3 b hb).2.2.1 q
    · have hp' : p ∈ (X.pn ++ pins) ++ [] := hp
      rw [List.append_nil] at hp'
      exact (hf3 b hb).2.2.2.2.2 p hp'
  have loop : ∀ s₄ : Shared, s₄ = { s3 with heap := h₁, toks := s.toks + ([] : List (Str × Value)).length } →
      codeAny (model X.prog X.w) X.A (.compLoop (.ListComp elt [⟨tg, iter, ifs, 0⟩] sc pos) 0 (.ref it) (.ref s.heap.objs.size) (compEnvC sc (ccl sc X.env) s3.heap.objs.size X.env)) (RR (.ref s.heap.objs.size) s3.heap.objs.size) s₄ := by
    rintro s₄ rfl
    refine codeAny_loop rfl (fun k s' => ∃ i σ' H', Inv (cxComp X N sc pins s3.heap.objs.size s3 (upd H s.heap.objs.size (.lst [])) fp) [] σ' H' s' ∧ tn i s'.heap ∧ (∀ b ∈ fp, H' b = none) ∧ W i k σ' H') ?_ m0
      ⟨0, _, _, I4, st4, fun b hb => (hf3 b hb).1, w0⟩
    rintro k s5 ⟨i, σ5, H5, I5, st5, fr5, w5⟩
    show wpAny _ X.A ((compTurn (.ListComp elt [⟨tg, iter, ifs, 0⟩] sc pos) 0 (.ref it) (.ref s.heap.objs.size) (compEnvC sc (ccl sc X.env) s3.heap.objs.size X.env)).onRaise (fun x => do noteFrame x (compEnvC sc (ccl sc X.env) s3.heap.objs.size X.env); theTreesLotGoes x)) _ _ s5
    refine wpAny_noted ?_
    rw [compTurn_list]
    refine wpAny_bind (wpAny_standAt (wpAny_bind ?_))
    have nev : ∀ {α : Type} {t : Sem α} {Q₁ : α → Shared → Prop} {E₁ : Value → Shared → Prop} {s₁ : Shared}, wpAny (model X.prog X.w) X.A t Q₁ (fun _ _ => False) s₁ → wpAny (model X.prog X.w) X.A t Q₁ E₁ s₁ := fun h => wpAny_noRaise h
    rcases turn i k σ5 H5 w5 with ⟨stop, qn⟩ | ⟨go, Nn, hN, step⟩
    · refine nev (thn (T.done (cxComp X N sc pins s3.heap.objs.size s3 (upd H s.heap.objs.size (.lst [])) fp) rfl rfl rfl hc i [] s5 σ5 H5 (fun _ _ => False) I5 (hfX fr5) st5 stop) fun r s6 ⟨hr, I6⟩ => ?_)
      subst hr
      have B : Inv X pins σ H5 s6 := comp_back I3 hf3 I6
      refine wpAny_pure (hR _ _ H5 s6 B (I3.fpOk (Nat.le_refl _) I6.free) ?_ qn)
      obtain ⟨m, hm, _⟩ := I6.loc
      exact ⟨m, hm⟩
    · refine nev (thn (T.item (cxComp X N sc pins s3.heap.objs.size s3 (upd H s.heap.objs.size (.lst [])) fp) rfl rfl rfl hc i [] s5 σ5 H5 (fun _ _ => False) I5 (hfX fr5) st5 go) fun r s6 ⟨u, hr, h6⟩ => ?_)
      subst hr
      refine wpAny_bind (nev (thn h6 fun _ s7 ⟨x, H7, I7, r7, y7, st7, fr7⟩ => ?_))
      have I7' := I7.pinned (hfX fr7) (T.obj _ _ st7)
      refine wpAny_bind (nev (thn (hg _ _ _ _ _ s7 σ5 H7 x u _ I7' r7 (step x H7 y7)) fun _ s8 ⟨σ8, H8, I8, q8⟩ => ?_))
      refine wpAny_bind (nev (thn (hi _ _ _ _ _ s8 σ8 H8 _ I8 q8) fun b s9 ⟨H9, I9, q9⟩ => ?_))
      have fin : ∀ {s10 : Shared} {H10 : Hp} {m' : Nat}, m' < k → Inv (cxComp X N sc pins s3.heap.objs.size s3 (upd H s.heap.objs.size (.lst [])) fp) ([] ++ pinsAt fp s7.heap) σ8 H10 s10 → W (i + 1) m' σ8 H10 →
          ∃ m, m < k ∧ ∃ i σ' H', Inv (cxComp X N sc pins s3.heap.objs.size s3 (upd H s.heap.objs.size (.lst [])) fp) [] σ' H' s10 ∧ tn i s10.heap ∧ (∀ b ∈ fp, H' b = none) ∧ W i m σ' H' := fun {s10 H10 m'} hm I10 w10 => by
        refine ⟨m', hm, i + 1, σ8, H10, I10.unpinned, T.keep _ _ _ st7 fun b hb o e => (I10.pin (b, o) (List.mem_append_right _ (List.mem_append_right _ (mem_pinsAt hb e)))).1, fun b hb => ?_, w10⟩
        obtain ⟨o, e, d⟩ := T.obj _ _ st7 b hb
        exact (I10.pin (b, o) (List.mem_append_right _ (List.mem_append_right _ (mem_pinsAt hb e)))).2.1
      cases b with
      | false =>
        rw [if_neg Bool.false_ne_true] at q9
        obtain ⟨m', hm, w9⟩ := hN _ _ q9
        exact wpAny_pure ⟨rfl, fin hm I9 w9⟩
      | true =>
        rw [if_pos rfl] at q9
        refine wpAny_bind (wpAny_bind (nev (thn (he _ _ _ _ _ s9 σ8 H9 _ I9 q9) fun v s10 ⟨y, H10, I10, r10, q10⟩ => ?_)))
        obtain ⟨ys, hy, hz, n10⟩ := q10
        obtain ⟨m', hm, w10⟩ := hN _ _ n10
        refine wpAny_bind (nev (thn (mt_append _ s10 σ8 H10 (.ref s.heap.objs.size) [y] (.ref s.heap.objs.size) [v] (fun z H' => H' = upd H10 s.heap.objs.size (.lst (ys ++ [y]))) I10 rfl (.cons r10 .nil) ⟨_, ys, y, rfl, rfl, hy, hz, rfl⟩) fun z s11 ⟨_, H11, I11, _, e11⟩ => ?_))
        subst e11
        exact wpAny_pure (wpAny_pure ⟨rfl, fin hm I11 w10⟩)
  subst hs3
  exact codeAny_compStart_list (loop _ rfl) (T.self _ 0 _ _ _ st4 (loop _ rfl))

theorem pe_comp (hc : X.calm = true) (S : CScope X n fr N sc) (hit : PI X tg iter wi)
    (hg : ∀ pins C s₀ H₀ fp, PG (cxComp X N sc pins C s₀ H₀ fp) tg g) (hi : ∀ pins C s₀ H₀ fp, PIfs (cxComp X N sc pins C s₀ H₀ fp) ifs tc) (he : ∀ pins C s₀ H₀ fp, PE (cxComp X N sc pins C s₀ H₀ fp) elt te)
    (hs : ∀ x, foldedSetIterable iter X.env x = pure x := by intro _; rfl) : PE X (.ListComp elt [⟨tg, iter, ifs, 0⟩] sc pos) (tComp wi n fr g tc te) := by
  intro pins s σ H Q I h
  rw [eval_ListComp]
  refine wpAny_comprehension_free (use := none) rfl hs (closure_ok S I.ok) S.kind S.own ?_
  refine thn (hit pins s σ H _ I h) fun v s1 h1 => thn h1 fun itv s2 h2 => ?_
  obtain ⟨it, fp, tn, J, H2, e, I2, T, st2, f2, q2⟩ := h2
  subst e
  refine comp_run (RR := fun acc C => compPost (model X.prog X.w) X.A X.xe none (EP X pins σ Q) acc C) hc S (hg pins) (hi pins) (he pins) I2 T st2 f2 q2 fun D C H' s' I' fC hm q => ?_
  obtain ⟨m, hm⟩ := hm
  refine ⟨m, hm, fun h' hs' => ⟨.ref D, H', I'.turned (t' := s'.toks) (fun b o hb e => (hs'.2 b hb).trans e) fC.1 fC.2.1 fC.2.2.2.1 fC.2.2.2.2.1 fC.2.2.2.2.2, rfl, q⟩⟩

end

/-! ### the forms one uses -/
theorem comp_range {lo : Int} {n : Nat} {g : TG} {tc : TT} {te : TE} {σ : St} {H : Hp} {D : Addr} {Q : VK} (Pv : Nat → St → Hp → Prop) (h0 : Pv 0 σ (upd H D (.lst [])))
    (hs : ∀ i σ' H', i < n → Pv i σ' H' → g (.int (lo + i)) σ' H' fun σ3 H3 => tc σ3 H3 fun b H4 =>
      if b = true then te σ3 H4 fun y H5 => ∃ ys, H5 D = some (.lst ys) ∧ ys.length < sizeLine ∧ Pv (i + 1) σ3 (upd H5 D (.lst (ys ++ [y]))) else Pv (i + 1) σ3 H4) (hd : ∀ σ' H', Pv n σ' H' → Q (.ref D) H') :
    CompW (Itr lo n) g tc te D σ (upd H D (.lst [])) Q := by
  refine ⟨fun i m σ H => m = n - i ∧ i ≤ n ∧ Pv i σ H, ⟨n, by simp, Nat.zero_le _, h0⟩, ?_⟩
  rintro i m σ H ⟨rfl, hi, p⟩
  by_cases hlt : i < n
  · refine .inr ⟨hlt, Pv (i + 1), fun σ' H' p' => ⟨n - (i + 1), by omega, rfl, hlt, p'⟩, fun x H' y => ?_⟩
    obtain ⟨e, y⟩ := y
    subst e y
    exact hs i σ _ hlt p
  · have e : i = n := by omega
    subst e
    exact .inl ⟨Nat.le_refl _, hd σ H p⟩
theorem comp_tup {K : PySem.W.Frag} {a : Addr} {xs : List V} {g : TG} {tc : TT} {te : TE} {σ : St} {H : Hp} {D : Addr} {Q : VK} (Pv : Nat → St → Hp → Prop) (h0 : Pv 0 σ (upd H D (.lst []))) (hl : ∀ i σ H, i ≤ xs.length → Pv i σ H → SqT K H a xs)
    (hs : ∀ i x σ' H', xs[i]? = some x → Pv i σ' H' → g x σ' H' fun σ3 H3 => tc σ3 H3 fun b H4 =>
      if b = true then te σ3 H4 fun y H5 => ∃ ys, H5 D = some (.lst ys) ∧ ys.length < sizeLine ∧ Pv (i + 1) σ3 (upd H5 D (.lst (ys ++ [y]))) else Pv (i + 1) σ3 H4) (hd : ∀ σ' H', Pv xs.length σ' H' → Q (.ref D) H') :
    CompW (Itt K a) g tc te D σ (upd H D (.lst [])) Q := by
  refine ⟨fun i m σ H => m = xs.length - i ∧ i ≤ xs.length ∧ Pv i σ H, ⟨xs.length, by simp, Nat.zero_le _, h0⟩, ?_⟩
  rintro i m σ H ⟨rfl, hi, p⟩
  have q := hl i σ H hi p
  by_cases hlt : i < xs.length
  · refine .inr ⟨⟨xs, xs[i], q, by simp [hlt]⟩, Pv (i + 1), fun σ' H' p' => ⟨xs.length - (i + 1), by omega, rfl, hlt, p'⟩, fun x H' y => ?_⟩
    obtain ⟨e, y⟩ := y
    subst e
    exact hs i x σ _ (y xs q) p
  · have e : i = xs.length := by omega
    subst e
    exact .inl ⟨⟨xs, q, Nat.le_refl _⟩, hd σ H p⟩
theorem comp_list {K : PySem.W.Frag} {a : Addr} {xs : List V} {g : TG} {tc : TT} {te : TE} {σ : St} {H : Hp} {D : Addr} {Q : VK} (Pv : Nat → St → Hp → Prop) (h0 : Pv 0 σ (upd H D (.lst []))) (hl : ∀ i σ H, i ≤ xs.length → Pv i σ H → SqL K H a xs)
    (hs : ∀ i x σ' H', xs[i]? = some x → Pv i σ' H' → g x σ' H' fun σ3 H3 => tc σ3 H3 fun b H4 =>
      if b = true then te σ3 H4 fun y H5 => ∃ ys, H5 D = some (.lst ys) ∧ ys.length < sizeLine ∧ Pv (i + 1) σ3 (upd H5 D (.lst (ys ++ [y]))) else Pv (i + 1) σ3 H4) (hd : ∀ σ' H', Pv xs.length σ' H' → Q (.ref D) H') :
    CompW (Itl K a) g tc te D σ (upd H D (.lst [])) Q := by
  refine ⟨fun i m σ H => m = xs.length - i ∧ i ≤ xs.length ∧ Pv i σ H, ⟨xs.length, by simp, Nat.zero_le _, h0⟩, ?_⟩
  rintro i m σ H ⟨rfl, hi, p⟩
  have q := hl i σ H hi p
  by_cases hlt : i < xs.length
  · refine .inr ⟨⟨xs, xs[i], q, by simp [hlt]⟩, Pv (i + 1), fun σ' H' p' => ⟨xs.length - (i + 1), by omega, rfl, hlt, p'⟩, fun x H' y => ?_⟩
    obtain ⟨e, y⟩ := y
    subst e
    exact hs i x σ _ (y xs q) p
  · have e : i = xs.length := by omega
    subst e
    exact .inl ⟨⟨xs, q, Nat.le_refl _⟩, hd σ H p⟩
end L2
namespace L2
open PySem PySem.Spec PyProof.Rows
/-! ### names, by facts shown once -/
noncomputable def VarOk (sc : Scope) (x : Str) : Prop := Vis sc x ∧ (x == ("__debug__" : Str)) = false ∧ (x == ("__classdict__" : Str)) = false
instance {sc : Scope} {x : Str} : Decidable (VarOk sc x) := by unfold VarOk Vis; exact inferInstance
instance {sc : Scope} {x : Str} : Decidable (Loc sc x) := by unfold Loc; exact inferInstance
theorem pvx {X : Cx} (i : Nat) {x : Str} {pos : Pos} (v : VarOk X.env.scope x) (hN : X.N[i]? = some x := by rfl) : PE X (.Name x pos) (tVar i) := pe_var hN v.1 v.2.1 v.2.2
noncomputable def VarC (sc : Scope) (x : Str) : Prop := (sc.names.lookup x = some .local ∨ sc.names.lookup x = some .free) ∧ (x == ("__debug__" : Str)) = false ∧ (x == ("__classdict__" : Str)) = false
instance {sc : Scope} {x : Str} : Decidable (VarC sc x) := by unfold VarC; exact inferInstance
theorem VarC.ok {sc : Scope} {env : Env} {x : Str} (h : VarC sc x) : VarOk (relabel sc env) x := by
  obtain ⟨h1, h2⟩ := h
  refine ⟨?_, h2⟩
  rcases h1 with h1 | h1
  · exact .inl (lookup_relabel_local h1)
  · rcases relabel_free (env := env) h1 with z | z
    · exact .inr (.inl z)
    · exact .inr (.inr z)
theorem relabel_glob {env : Env} : ∀ {names : List (Str × NameKind)} {x : Str}, names.lookup x = some .globalImplicit →
    (names.map fun (n, k) => if (k == NameKind.free && env.scope.kind == .function && env.kindOf n == some .cell) then (n, NameKind.cell) else (n, k)).lookup x = some .globalImplicit
  | [], _, h => by simp at h
  | (n, q) :: r, x, h => by
    have ih := @relabel_glob env r x
    rw [List.map_cons]
    cases hx : x == n with
    | true =>
      simp only [List.lookup_cons, hx, Option.some.injEq] at h
      subst h
      simp [List.lookup_cons, hx]
    | false =>
      simp only [List.lookup_cons, hx] at h
      by_cases hc : (q == NameKind.free && env.scope.kind == .function && env.kindOf n == some .cell) = true
      · simpa only [hc, if_true, List.lookup_cons, hx] using ih h
      · simpa only [hc, if_false, List.lookup_cons, hx, Bool.false_eq_true] using ih h
theorem glC {X : Cx} {N : List Str} {sc : Scope} {pins : List (Addr × Obj)} {C : Addr} {s₀ : Shared} {H₀ : Hp} {fp : List Addr} {x : Str} (h : sc.names.lookup x = some .globalImplicit) : Gl (cxComp X N sc pins C s₀ H₀ fp) x := relabel_glob h
theorem pgx {X : Cx} {i : Nat} {x : Str} {pos : Pos} (hN : X.N.Nodup) (hx : X.env.scope.names.lookup x = some .local) (hi : X.N[i]? = some x := by rfl) : PG X (.Name x pos) (gName i) := pg_name hN hi (.inl hx) (.inr hx)
theorem locC {sc : Scope} {env : Env} {x : Str} (h : sc.names.lookup x = some .local) : (relabel sc env).names.lookup x = some .local := lookup_relabel_local h
end L2

set_option maxRecDepth 100000
namespace L2
open PySem PySem.Spec PyProof.Rows

/-! ### // by a positive divisor of any written size -/
noncomputable def CDivB (_ j : Int) : Prop := 0 < j ∧ j.natAbs.log2 < 9000
theorem op_fdivB {X : Cx} : OpR X (binaryOp .FloorDiv) (rI CDivB fun i j => .int (i / j)) := opI fun i j _ _ _ _ _ hc q => by
  have h1 : (0 : Int) < j := hc.1
  exact floordiv_int (by omega) (by rw [Int.fdiv_eq_ediv_of_nonneg i (by omega)]; exact q) (.inl (PyProof.noPylong_of_log2 hc.2))

/-! ### values as data, and == of them -/
mutual
inductive DatV (K : PySem.W.Frag) (H : Hp) : V → PyData → Prop where
  | non : DatV K H .non .none
  | bl (b : Bool) : DatV K H (.bl b) (.bool b)
  | int (i : Int) : DatV K H (.int i) (.int i)
  | str (x : Str) : DatV K H (.str x) (.str x)
  | lst {a : Addr} {xs : List V} {ds : List PyData} (h : SqL K H a xs) (r : DatVs K H xs ds) : DatV K H (.ref a) (.list ds)
  | tup {a : Addr} {xs : List V} {ds : List PyData} (h : SqT K H a xs) (r : DatVs K H xs ds) : DatV K H (.ref a) (.tuple ds)
inductive DatVs (K : PySem.W.Frag) (H : Hp) : List V → List PyData → Prop where
  | nil : DatVs K H [] []
  | cons {x : V} {d : PyData} {xs : List V} {ds : List PyData} (h : DatV K H x d) (r : DatVs K H xs ds) : DatVs K H (x :: xs) (d :: ds)
end
theorem datVs_strs {K : PySem.W.Frag} {H : Hp} : ∀ ns : List Str, DatVs K H (ns.map V.str) (ns.map PyData.str)
  | [] => .nil
  | n :: r => .cons (.str n) (datVs_strs r)

section
variable {X : Cx} {pins : List (Addr × Obj)} {σ : St} {H : Hp} {s : Shared}
mutual
theorem DatV.reads (I : Inv X pins σ H s) : ∀ {x : V} {d : PyData} {u : Value}, DatV X.K H x d → RelV x u → ∃ as, Reads s.heap u d as
  | _, _, _, .non, r => by cases (show _ = Value.none from r); exact ⟨_, .none⟩
  | _, _, _, .bl b, r => by cases (show _ = Value.bool b from r); exact ⟨_, .bool b⟩
  | _, _, _, .int i, r => by obtain ⟨t, rfl⟩ := r; exact ⟨_, .int i t⟩
  | _, _, _, .str x, r => by obtain ⟨t, rfl⟩ := r; exact ⟨_, .str x t⟩
  | _, _, _, .lst h q, r => by
    cases (show _ = Value.ref _ from r)
    obtain ⟨its, rv, ⟨o, n, e, c, _, d⟩, _⟩ := I.list h
    obtain ⟨as, hr⟩ := DatVs.reads I q rv
    exact ⟨_, .list e c d (by simpa using hr)⟩
  | _, _, _, .tup h q, r => by
    cases (show _ = Value.ref _ from r)
    obtain ⟨its, rv, ⟨o, e, c, n, d⟩, _⟩ := I.tuple h
    obtain ⟨as, hr⟩ := DatVs.reads I q rv
    exact ⟨_, .tuple e c d (by simpa using hr)⟩
theorem DatVs.reads (I : Inv X pins σ H s) : ∀ {xs : List V} {ds : List PyData} {us : List Value}, DatVs X.K H xs ds → Vals xs us → ∃ as, ReadsAll s.heap us ds as
  | _, _, _, .nil, .nil => ⟨_, .nil⟩
  | _, _, _, .cons h r, .cons q t => by
    obtain ⟨as, h1⟩ := DatV.reads I h q
    obtain ⟨bs, h2⟩ := DatVs.reads I r t
    exact ⟨_, .cons h1 h2⟩
end
end
noncomputable def rEqD (K : PySem.W.Frag) (neg : Bool) : R2 := fun x y H Q => ∃ d e, DatV K H x d ∧ DatV K H y e ∧ SeqAt.shaped d = true ∧ SeqAt.shaped e = true ∧ Q (.bl (if neg then !PyData.eqv d e else PyData.eqv d e)) H
theorem op_eqD {X : Cx} (hu : X.A.units + 64 < cLine) : OpR X (compareOp .Eq) (rEqD X.K false) := by
  intro pins s σ H x y v u Q I rx ry h
  obtain ⟨d, e, hd, he, sd, se, q⟩ := h
  obtain ⟨as, h1⟩ := hd.reads I rx
  obtain ⟨bs, h2⟩ := he.reads I ry
  exact eq_dataH h1 h2 sd se hu ⟨.bl _, H, I, rfl, q⟩
theorem op_neD {X : Cx} (hu : X.A.units + 64 < cLine) : OpR X (compareOp .NotEq) (rEqD X.K true) := by
  intro pins s σ H x y v u Q I rx ry h
  obtain ⟨d, e, hd, he, sd, se, q⟩ := h
  obtain ⟨as, h1⟩ := hd.reads I rx
  obtain ⟨bs, h2⟩ := he.reads I ry
  exact ne_dataH h1 h2 sd se hu ⟨.bl _, H, I, rfl, q⟩

/-! ### sep.join(texts) -/

/-! ### range(a, b, c) with a written c above 0 -/

/-! ### isinstance(x, T), T a built-in class -/
theorem call_isi {X : Cx} : CallR X (.builtin "isinstance") (fun xs H Q => ∃ x T t b, xs = [x, .ty T] ∧ TyOf X.K H x t ∧ PySem.W.kitOne X.K t (.type T) = some b ∧ Q (.bl b) H) := by
  intro pins s σ H xs us Q I r h
  obtain ⟨x, T, t, b, rfl, ty, e, q⟩ := h
  obtain ⟨u, v, rfl, r1, r2⟩ := Vals.two r
  cases (show v = Value.type T from r2)
  exact isinst_ok I r1 ty e fun tk => ⟨.bl b, H, I.tok tk, rfl, q⟩

/-! ### a dict of the module's top, keys texts -/
theorem bt_len : bootBuiltins "len" = some (.builtin "len") := by decide +kernel
theorem bt_isinstance : bootBuiltins "isinstance" = some (.builtin "isinstance") := by decide +kernel
theorem bt_max : bootBuiltins "max" = some (.builtin "max") := by decide +kernel
theorem bt_sorted : bootBuiltins "sorted" = some (.builtin "sorted") := by decide +kernel
theorem bt_all : bootBuiltins "all" = some (.builtin "all") := by decide +kernel
theorem bt_int : bootBuiltins "int" = some (.type "int") := by decide +kernel
theorem bt_str : bootBuiltins "str" = some (.type "str") := by decide +kernel
theorem bt_bool : bootBuiltins "bool" = some (.type "bool") := by decide +kernel
theorem bt_list : bootBuiltins "list" = some (.type "list") := by decide +kernel
theorem bt_tuple : bootBuiltins "tuple" = some (.type "tuple") := by decide +kernel
theorem bt_dict : bootBuiltins "dict" = some (.type "dict") := by decide +kernel
theorem bt_enumerate : bootBuiltins "enumerate" = some (.type "enumerate") := by decide +kernel
theorem bt_zip : bootBuiltins "zip" = some (.type "zip") := by decide +kernel
end L2

set_option maxRecDepth 100000
namespace L2
open PySem PySem.Spec PyProof.Rows
/-! ### the rules once more, their judgements as structures: the elaborator then looks at nothing else -/
structure QE (X : Cx) (e : Expr) (t : TE) : Prop where
  h : PE X e t
structure QT (X : Cx) (e : Expr) (t : TT) : Prop where
  h : PT X e t
structure QW (X : Cx) (e : Expr) (t : TT) : Prop where
  h : PW X e t
structure QA (X : Cx) (es : List Expr) (t : TA) : Prop where
  h : PA X es t
structure QS (X : Cx) (s : Stmt) (t : TS) : Prop where
  h : PS X s t
structure QSs (X : Cx) (s : List Stmt) (t : TS) : Prop where
  h : PSs X s t
structure QG (X : Cx) (e : Expr) (t : TG) : Prop where
  h : PG X e t
structure QGs (X : Cx) (es : List Expr) (t : TGs) : Prop where
  h : PGs X es t
structure QI (X : Cx) (tg e : Expr) (t : TI) : Prop where
  h : PI X tg e t
structure QO (X : Cx) (e : Option Expr) (t : TO) : Prop where
  h : PO X e t
structure QIfs (X : Cx) (es : List Expr) (t : TT) : Prop where
  h : PIfs X es t
structure QPs (X : Cx) (pos : Pos) (ks : List (Option Expr)) (vs : List Expr) (t : List (TE × TE)) : Prop where
  h : PPs X pos ks vs t
structure QOp (X : Cx) (f : Value → Value → Sem Value) (r : R2) : Prop where
  h : OpR X f r
structure QUn (X : Cx) (f : Value → Sem Value) (r : V → Hp → VK → Prop) : Prop where
  h : UnR X f r
structure QIx (X : Cx) (r : R2) : Prop where
  h : IxR X r
structure QSl (X : Cx) (r : V → Option Int → Option Int → Hp → VK → Prop) : Prop where
  h : SlR X r
structure QMt (X : Cx) (id : String) (r : V → List V → Hp → VK → Prop) : Prop where
  h : MtR X id r
structure QCall (X : Cx) (f : Value) (r : List V → Hp → VK → Prop) : Prop where
  h : CallR X f r
section
variable {X : Cx} {a b c e : Expr} {es : List Expr} {ta tb te : TE} {tA tB' : TT} {pos p : Pos} {x : Str}
theorem qe_var (i : Nat) (v : VarOk X.env.scope x) (hN : X.N[i]? = some x := by rfl) : QE X (.Name x pos) (tVar i) := ⟨pvx i v hN⟩
theorem qe_int {i j pos} : QE X (.Constant (.int i) j pos) (tC (.int i)) := ⟨pe_int⟩
theorem qe_bl {b j pos} : QE X (.Constant (.bool b) j pos) (tC (.bl b)) := ⟨pe_bl⟩
theorem qe_non {j pos} : QE X (.Constant .none j pos) (tC .non) := ⟨pe_non⟩
theorem qe_str {x j pos} : QE X (.Constant (.str x) j pos) (tC (.str x)) := ⟨pe_str⟩
theorem qe_bltn {v : V} {u : Value} (hg : Gl X x) (hm : X.mg x = none) (hv : bootBuiltins x = some u) (r : RelV v u) (hn : x ≠ "__name__") (hd : (x == ("__debug__" : Str)) = false) : QE X (.Name x pos) (tC v) := ⟨pe_bltn hg hm hv r hn hd⟩
theorem qe_op {op : Operator} {r : R2} (ho : QOp X (binaryOp op) r) (ha : QE X a ta) (hb : QE X b tb) : QE X (.BinOp a op b pos) (tOp r ta tb) := ⟨pe_op ho.h ha.h hb.h⟩
theorem qe_un {op : UnaryOp} {r : V → Hp → VK → Prop} (ho : QUn X (unaryOp op) r) (ha : QE X a ta) : QE X (.UnaryOp op a pos) (tUn r ta) := ⟨pe_un ho.h ha.h⟩
theorem qe_cmp {op : CmpOp} {r : R2} (ho : QOp X (compareOp op) r) (ha : QE X a ta) (hb : QE X b tb) (hm : behindInMarks op b = false) : QE X (.Compare a [op] [b] pos) (tOp r ta tb) := ⟨pe_cmpR ho.h ha.h hb.h hm⟩
theorem qt_cmp {op : CmpOp} {r : R2} (ho : QOp X (compareOp op) r) (ha : QE X a ta) (hb : QE X b tb) (hm : behindInMarks op b = false) : QT X (.Compare a [op] [b] pos) (tTest (tOp r ta tb)) := ⟨pt_cmpR ho.h ha.h hb.h hm⟩
theorem qt_val (h : QE X e te) (he : ∀ whole, isTrue e X.env whole = (do let v ← whole; standAt e.pos; holding [v] (truthy v)) := by intro _; rfl) : QT X e (tB te) := ⟨pt_val h.h he⟩
theorem qt_not (ha : QT X a tA) : QT X (.UnaryOp .Not a pos) (tNot tA) := ⟨pt_not ha.h⟩
theorem qe_not (ha : QE X a ta) : QE X (.UnaryOp .Not a pos) (tNotV ta) := ⟨pe_not ha.h⟩
theorem qw_and1 (ha : QT X a tA) : QW X (.BoolOp .And [a] pos) tA := ⟨pw_and1 ha.h⟩
theorem qw_or1 (ha : QT X a tA) : QW X (.BoolOp .Or [a] pos) tA := ⟨pw_or1 ha.h⟩
theorem qw_and {rest : List Expr} (ha : QT X a tA) (hb : QW X (.BoolOp .And (b :: rest) pos) tB') : QW X (.BoolOp .And (a :: b :: rest) pos) (tAnd tA tB') := ⟨pw_and ha.h hb.h⟩
theorem qw_or {rest : List Expr} (ha : QT X a tA) (hb : QW X (.BoolOp .Or (b :: rest) pos) tB') : QW X (.BoolOp .Or (a :: b :: rest) pos) (tOr tA tB') := ⟨pw_or ha.h hb.h⟩
theorem qt_w (h : QW X e tA) : QT X e tA := ⟨h.h.pt⟩
theorem qe_one {op} (h : QE X a ta) : QE X (.BoolOp op [a] pos) ta := ⟨pe_one h.h⟩
theorem qe_and {rest : List Expr} (ha : QE X a ta) (hb : QE X (.BoolOp .And (b :: rest) pos) tb) : QE X (.BoolOp .And (a :: b :: rest) pos) (tAndV ta tb) := ⟨pe_and ha.h hb.h⟩
theorem qa_nil : QA X [] tNil := ⟨pa_nil⟩
theorem qa_cons {t : TA} (ha : QE X e te) (hr : QA X es t) (hs : starEach (e :: es) X.env = (false, eval e X.env) :: starEach es X.env := by rfl) : QA X (e :: es) (tCons te t) := ⟨pa_cons ha.h hr.h hs⟩
theorem qe_tup {x1} {t : TA} (h : QA X es t) : QE X (.Tuple es x1 pos) (tTup t) := ⟨pe_tup h.h⟩
theorem qe_lst {t : TA} (h : QA X es t) : QE X (.List es pos) (tLst t) := ⟨pe_lst h.h⟩
theorem qe_ix {r : R2} (hr : QIx X r) (ha : QE X a ta) (hb : QE X b tb) (hs : PlainIx b := by intro _ _; rfl) : QE X (.Subscript a b pos) (tOp r ta tb) := ⟨pe_ix hr.h ha.h hb.h hs⟩
theorem qo_none : QO X none tNoPart := ⟨po_none⟩
theorem qo_some (h : QE X e te) : QO X (some e) (tPart te) := ⟨po_some h.h⟩
theorem qe_slice {r : V → Option Int → Option Int → Hp → VK → Prop} {lo hi : Option Expr} {tl th : TO} {p2 : Pos} (hr : QSl X r) (he : QE X e te) (hl : QO X lo tl) (hu : QO X hi th) : QE X (.Subscript e (.Slice lo hi none p2) pos) (tSl r te tl th) := ⟨pe_slice hr.h he.h hl.h hu.h⟩
theorem qe_dget (hu : X.A.units + 1 < cLine) (ho : QE X a ta) (hi : QE X b tb) (hs : NoSl b := by intro _ _; rfl) : QE X (.Subscript a b pos) (tDGet ta tb) := ⟨pe_dget hu ho.h hi.h hs⟩
theorem qp_nil : QPs X pos [] [] [] := ⟨pps_nil⟩
theorem qp_cons {k v : Expr} {ks : List (Option Expr)} {vs : List Expr} {tk tv : TE} {trs : List (TE × TE)} (hk : QE X k tk) (hv : QE X v tv) (hr : QPs X pos ks vs trs) : QPs X pos (some k :: ks) (v :: vs) ((tk, tv) :: trs) := ⟨pps_cons hk.h hv.h hr.h⟩
theorem qe_disp {keys : List (Option Expr)} {values : List Expr} {trs : List (TE × TE)} (h : QPs X pos keys values trs) (hall : keys.all (·.isSome) = true := by rfl) (hl : keys.length = values.length := by rfl) (h1 : keys ≠ [] := by intro z; cases z) (h2 : keys.length ≤ 15 := by decide) : QE X (.Dict keys values pos) (tDisp trs) := ⟨pe_disp h.h hall hl h1 h2⟩
theorem qe_call {CX : CXT} {k : Nat} {f : Addr} {fd : FuncData} {ps : List Str} {sp : Sp} {dvs : List V} {ds : List Value} {E : XK} {t : TA} (F : FnOk X.prog X.w X.K X.mg X.base CX k f fd ps sp) (hr : Room k X.A) (hg : Gl X x) (hm : X.mg x = some (.ref f)) (hk : PySem.W.keepIn X.K (.ref f) = true) (hb : Binds X.K fd ps ds) (hd : Vals dvs ds) (hx : Passes CX X E)
    (ha : QA X (e :: es) t) (hdb : (x == ("__debug__" : Str)) = false) (he : starEach (e :: es) X.env = (false, eval e X.env) :: starEach es X.env := by rfl) (hpl : (backTo pos (starEach es X.env)).any (·.1) = false := by rfl) :
    QE X (.Call (.Name x p) (e :: es) [] pos) (tCall sp dvs E t) := ⟨pe_call F hr hg hm hk hb hd hx ha.h hdb he hpl⟩
theorem qe_callB {id : String} {r : List V → Hp → VK → Prop} {t : TA} (hc : QCall X (.builtin id) r) (hg : Gl X x) (hm : X.mg x = none) (hv : bootBuiltins x = some (.builtin id)) (ha : QA X (e :: es) t) (hn : x ≠ "__name__") (hdb : (x == ("__debug__" : Str)) = false)
    (he : starEach (e :: es) X.env = (false, eval e X.env) :: starEach es X.env := by rfl) (hpl : (backTo pos (starEach es X.env)).any (·.1) = false := by rfl) : QE X (.Call (.Name x p) (e :: es) [] pos) (tCB r t) := ⟨pe_callB hc.h hg hm hv ha.h hn hdb he hpl⟩
theorem qe_callTy {T : String} {r : List V → Hp → VK → Prop} {t : TA} (hc : QCall X (.type T) r) (hg : Gl X x) (hm : X.mg x = none) (hv : bootBuiltins x = some (.type T)) (ha : QA X (e :: es) t) (hn : x ≠ "__name__") (hdb : (x == ("__debug__" : Str)) = false)
    (he : starEach (e :: es) X.env = (false, eval e X.env) :: starEach es X.env := by rfl) (hpl : (backTo pos (starEach es X.env)).any (·.1) = false := by rfl) : QE X (.Call (.Name x p) (e :: es) [] pos) (tCB r t) := ⟨pe_callTy hc.h hg hm hv ha.h hn hdb he hpl⟩
theorem qe_bm {o : Expr} {to : TE} {name : Str} {apos cpos : Pos} {T id : String} {r : V → List V → Hp → VK → Prop} {t : TA} (pa : PlainAttrs T) (slot : Slot T name id) (hty : typeOf (.builtin id) = pure (.type "method_descriptor")) (hm : QMt X id r) (ho : QE X o to) (ha : QA X (e :: es) t)
    (hbase : attributeBase o name X.env (eval o X.env) = eval o X.env := by rfl)
    (hfew : ((backTo cpos (starEach (e :: es) X.env)).all (fun x => !x.1) && (backToKw cpos (keywordEach [] X.env)).all (fun x => x.1.isSome)
      && decide ((e :: es).length + ([] : List Keyword).length + (if ([] : List Keyword).isEmpty then 0 else 1) < 30)) = true := by rfl)
    (hline : (apos.endLine == cpos.line) = true := by rfl) (hs : starEach (e :: es) X.env = (false, eval e X.env) :: starEach es X.env := by rfl) (hplain : (backTo cpos (starEach es X.env)).any (·.1) = false := by rfl) :
    QE X (.Call (.Attribute o name apos) (e :: es) [] cpos) (tBM X.K T r to t) := ⟨pe_bm pa slot hty hm.h ho.h ha.h hbase hfew hline hs hplain⟩
theorem qe_comp {n : Nat} {fr : List Nat} {N : List Str} {sc : Scope} {elt tg iter : Expr} {ifs : List Expr} {wi : TI} {g : TG} {tc : TT} (hc : X.calm = true) (S : CScope X n fr N sc) (hit : QI X tg iter wi)
    (hg : ∀ pins C s₀ H₀ fp, QG (cxComp X N sc pins C s₀ H₀ fp) tg g) (hi : ∀ pins C s₀ H₀ fp, QIfs (cxComp X N sc pins C s₀ H₀ fp) ifs tc) (he : ∀ pins C s₀ H₀ fp, QE (cxComp X N sc pins C s₀ H₀ fp) elt te)
    (hs : ∀ x, foldedSetIterable iter X.env x = pure x := by intro _; rfl) : QE X (.ListComp elt [⟨tg, iter, ifs, 0⟩] sc pos) (tComp wi n fr g tc te) :=
  ⟨pe_comp hc S hit.h (fun a b c d e => (hg a b c d e).h) (fun a b c d e => (hi a b c d e).h) (fun a b c d e' => (he a b c d e').h) hs⟩
theorem qi_nil : QIfs X [] tTrue := ⟨pifs_nil⟩
theorem qi_one {t : TT} (h : QT X c t) : QIfs X [c] t := ⟨pifs_one h.h⟩
theorem qi_list {tg l : Expr} {tl : TE} (hl : QE X l tl) : QI X tg l (iList X.K tl) := ⟨pi_list hl.h⟩
theorem qi_tup {tg l : Expr} {tl : TE} (hl : QE X l tl) : QI X tg l (iTup X.K tl) := ⟨pi_tup hl.h⟩
theorem qi_range1 {tg : Expr} {t : TA} (hg : Gl X "range") (hm : X.mg "range" = none) (ha : QA X [a] t) (hs : starEach [a] X.env = [(false, eval a X.env)] := by rfl) : QI X tg (.Call (.Name "range" p) [a] [] pos) (iRng1 t) := ⟨pi_range1 hg hm ha.h hs⟩
theorem qg_name {i : Nat} (hN : X.N.Nodup) (hi : X.N[i]? = some x) (hx : Loc X.env.scope x) (hf : X.fn x = true ∨ X.env.scope.names.lookup x = some .local := by first | exact .inl rfl | exact .inr rfl | assumption) : QG X (.Name x pos) (gName i) := ⟨pg_name hN hi hx hf⟩
theorem qgx {i : Nat} (hN : X.N.Nodup) (hx : X.env.scope.names.lookup x = some .local) (hi : X.N[i]? = some x := by rfl) : QG X (.Name x pos) (gName i) := ⟨pgx hN hx hi⟩
theorem qgs_nil : QGs X [] gNil := ⟨pgs_nil⟩
theorem qgs_cons {t : TG} {u : TGs} (h1 : QG X e t) (h2 : QGs X es u) (hs : (assignEach (e :: es) X.env).map (·.2) = assign e X.env :: (assignEach es X.env).map (·.2) := by rfl) : QGs X (e :: es) (gCons t u) := ⟨pgs_cons h1.h h2.h hs⟩
theorem qg_tup {k n : Nat} {t : TGs} (hc : X.calm = true) (h : QGs X es t) (hn : (assignEach es X.env).length = n := by rfl) (hst : (assignEach es X.env).findIdx? (·.1) = none := by rfl) : QG X (.Tuple es k pos) (gTup X.K n t) := ⟨pg_tup hc h.h hn hst⟩
theorem qs_asg {tg : Expr} {g : TG} (he : QE X e te) (hg : QG X tg g) (hs : swapsWithSole [tg] e pos.line X.env = pure false := by rfl) (hw : swappedStores [tg] e X.env = pure none := by rfl)
    (h1 : (assignEach [tg] X.env).map (·.2) = [assign tg X.env] := by rfl) : QS X (.Assign [tg] e pos) (tAsg te g) := ⟨ps_asg he.h hg.h hs hw h1⟩
theorem qs_set {i : Nat} {pos' : Pos} (hN : X.N.Nodup) (hi : X.N[i]? = some x) (hx : Loc X.env.scope x) (he : QE X e te) (hs : swapsWith e (some (.Name x pos')) pos.line X.env = pure false := by rfl) (hf : X.fn x = true ∨ X.env.scope.names.lookup x = some .local := by first | exact .inl rfl | exact .inr rfl | assumption) :
    QS X (.Assign [.Name x pos'] e pos) (tAsg te (gName i)) := ⟨ps_set hN hi hx he.h hs hf⟩
theorem qs_dput {o i v : Expr} {td ty tv : TE} {pos' : Pos} (hu : X.A.units + 1 < cLine) (ho : QE X o td) (hi : QE X i ty) (hv : QE X v tv) (hs : swapsWith v (some (.Subscript o i pos')) pos.line X.env = pure false := by rfl) : QS X (.Assign [.Subscript o i pos'] v pos) (sDPut td ty tv) := ⟨ps_dput hu ho.h hi.h hv.h hs⟩
theorem qs_expr (he : QE X e te) (hs : swapsWith e none pos.line X.env = pure false := by rfl) : QS X (.Expr e pos) (tDrop te) := ⟨ps_expr he.h hs⟩
theorem qs_ret (he : QE X e te) : QS X (.Return (some e) pos) (tRet te) := ⟨ps_ret he.h⟩
theorem qs_if {s1 s2 : List Stmt} {t u : TS} (hc : QT X c tA) (ha : QSs X s1 t) (hb : QSs X s2 u) : QS X (.If c s1 s2 pos) (tIfS tA t u) := ⟨ps_if hc.h ha.h hb.h⟩
theorem qs_for {tg iter : Expr} {body : List Stmt} {wi : TI} {g : TG} {tb : TS} (hp : PassesOwn (model X.prog X.w) X.A X.env X.xe) (hc : X.calm = true) (hi : QI X tg iter wi) (hg : QG X tg g) (hb : QSs X body tb)
    (hs : ∀ x, foldedSetIterable iter X.env x = pure x := by intro _; rfl) : QS X (.For tg iter body [] pos) (tFor wi g tb) := ⟨ps_for hp hc hi.h hg.h hb.h hs⟩
theorem qss_nil : QSs X [] tNext := ⟨pss_nil⟩
theorem qss_cons {s : Stmt} {rest : List Stmt} {t u : TS} (h1 : QS X s t) (h2 : QSs X rest u) : QSs X (s :: rest) (tSeq t u) := ⟨pss_cons h1.h h2.h⟩
theorem qss_one {s : Stmt} {t : TS} (h1 : QS X s t) : QSs X [s] t := ⟨pss_one h1.h⟩
theorem qop_add : QOp X (binaryOp .Add) (rI0 fun i j => .int (i + j)) := ⟨op_add⟩
theorem qop_sub : QOp X (binaryOp .Sub) (rI0 fun i j => .int (i - j)) := ⟨op_sub⟩
theorem qop_mul : QOp X (binaryOp .Mult) (rI CMul fun i j => .int (i * j)) := ⟨op_mul⟩
theorem qop_mod : QOp X (binaryOp .Mod) (rI (fun _ j => 0 < j) fun i j => .int (i % j)) := ⟨op_mod⟩
theorem qop_fdiv : QOp X (binaryOp .FloorDiv) (rI CDivB fun i j => .int (i / j)) := ⟨op_fdivB⟩
theorem qop_pow : QOp X (binaryOp .Pow) (rI CPow fun i j => .int (i ^ j.toNat)) := ⟨op_pow⟩
theorem qop_add_str : QOp X (binaryOp .Add) (fun x y H Q => ∃ i j, x = .str i ∧ y = .str j ∧ i.length + j.length ≤ sizeLine ∧ Q (.str (i ++ j)) H) := ⟨op_add_str⟩
theorem qop_cat : QOp X (binaryOp .Add) rCat := ⟨op_cat⟩
theorem qun_neg : QUn X (unaryOp .USub) (rU fun i => .int (-i)) := ⟨un_neg⟩
theorem qop_eq : QOp X (compareOp .Eq) rEq := ⟨op_eq⟩
theorem qop_ne : QOp X (compareOp .NotEq) rNe := ⟨op_ne⟩
theorem qop_lt : QOp X (compareOp .Lt) (rI0 fun i j => .bl (decide (i < j))) := ⟨op_lt⟩
theorem qop_gt : QOp X (compareOp .Gt) (rI0 fun i j => .bl (decide (j < i))) := ⟨op_gt⟩
theorem qop_eqD (hu : X.A.units + 64 < cLine) : QOp X (compareOp .Eq) (rEqD X.K false) := ⟨op_eqD hu⟩
theorem qop_neD (hu : X.A.units + 64 < cLine) : QOp X (compareOp .NotEq) (rEqD X.K true) := ⟨op_neD hu⟩
theorem qix_list : QIx X (rIxL X.K) := ⟨ix_list⟩
theorem qix_tup : QIx X (rIxT X.K) := ⟨ix_tup⟩
theorem qix_str : QIx X rIxS := ⟨ix_str⟩
theorem qsl_list : QSl X (rSlL X.K) := ⟨sl_list⟩
theorem qmt_append : QMt X "list.append" rAppend := ⟨mt_append⟩
theorem qc_len_seq : QCall X (.builtin "len") (fun xs H Q => ∃ p ys, xs = [.ref p] ∧ (SqL X.K H p ys ∨ SqT X.K H p ys) ∧ Q (.int ys.length) H) := ⟨call_len_seq⟩
theorem qc_lenD : QCall X (.builtin "len") (fun xs H Q => ∃ a kvs, xs = [V.ref a] ∧ H a = some (.dK kvs) ∧ Q (.int kvs.length) H) := ⟨call_lenD⟩
theorem qc_isi : QCall X (.builtin "isinstance") (fun xs H Q => ∃ x T t b, xs = [x, .ty T] ∧ TyOf X.K H x t ∧ PySem.W.kitOne X.K t (.type T) = some b ∧ Q (.bl b) H) := ⟨call_isi⟩
theorem qc_intB : QCall X (.type "int") (fun xs H Q => ∃ k, xs = [.bl k] ∧ Q (.int (if k then 1 else 0)) H) := ⟨fun pins s σ H xs us Q I r h => call_int1 pins s σ H xs us Q I r (.inr h)⟩
theorem qc_tuple_of : QCall X (.type "tuple") (fun xs H Q => ∃ p ys, xs = [.ref p] ∧ SqL X.K H p ys ∧ ∀ l, H l = none → Q (.ref l) (upd H l (.tup ys))) := ⟨fun pins s σ H xs us Q I r h => call_tuple_of pins s σ H xs us Q I r (let ⟨p, ys, e, hs, q⟩ := h; ⟨p, ys, e, .inl ⟨hs, q⟩⟩)⟩
theorem nomarkQ (b : Expr) {op : CmpOp} (h : op ≠ .In := by decide) (h2 : op ≠ .NotIn := by decide) : behindInMarks op b = false := nomark b h h2
/-! ### .. with the written part named (for a comprehension's block) -/
theorem qix_listK {K : PySem.W.Frag} (e : X.K = K) : QIx X (rIxL K) := e ▸ qix_list
theorem qix_tupK {K : PySem.W.Frag} (e : X.K = K) : QIx X (rIxT K) := e ▸ qix_tup
theorem qc_len_seqK {K : PySem.W.Frag} (e : X.K = K) : QCall X (.builtin "len") (fun xs H Q => ∃ p ys, xs = [.ref p] ∧ (SqL K H p ys ∨ SqT K H p ys) ∧ Q (.int ys.length) H) := e ▸ qc_len_seq
end
end L2

set_option maxRecDepth 100000
namespace L2
open PySem PySem.Spec PyProof.Rows

/-! ### the signs of a text, walked -/

/-! ### all, sum -/
theorem call_allB {X : Cx} (hc : X.calm = true) : CallR X (.builtin "all") (fun xs H Q => ∃ (p : Addr) (bs : List Bool), xs = [V.ref p] ∧ SqL X.K H p (bs.map V.bl) ∧ Q (.bl (bs.all id)) H) := by
  intro pins s σ H xs us Q I r h
  obtain ⟨p, bs, rfl, hp, q⟩ := h
  obtain ⟨u, rfl, ru⟩ := Vals.one r
  cases (show u = Value.ref p from ru)
  obtain ⟨its, rv, pl, hz⟩ := I.list hp
  have hlt : p < s.heap.objs.size := by obtain ⟨o, n, e, _⟩ := pl; exact Heap.lt_size e
  have hlen : its.length = bs.length := by rw [← rv.length, List.length_map]
  refine call_all_walk (wpAny_pyIter_list pl.isList ?_)
  refine ⟨s.heap.objs.size, _, _, its.toArray.size, (fun i v => its.toArray[i]? = some v), _, (fun i => bs.getD i false), rfl, Walks.list (A := X.A.in1) (I.ok.hd hc) s.heap.objs.size p (Nat.ne_of_lt hlt) its.toArray, ⟨⟨_, Heap.get?_push_size _ rfl, rfl, rfl⟩, pl.isList.push _⟩, ?_, ?_⟩
  · intro i v s' Q' E' hv hq
    have hi : i < bs.length := by
      rw [← hlen]
      have := (Array.getElem?_eq_some_iff.mp hv).1
      simpa using this
    obtain ⟨u, hu, ru⟩ := rv.get (i := i) (x := V.bl bs[i]) (by rw [List.getElem?_map, List.getElem?_eq_getElem hi]; rfl)
    have hv' : its[i]? = some v := by simpa using hv
    rw [hu] at hv'
    cases hv'
    cases (show v = Value.bool _ from ru)
    refine wpAny_truthy_bool ?_
    have e : bs.getD i false = bs[i] := by rw [List.getD_eq_getElem?_getD, List.getElem?_eq_getElem hi]; rfl
    have hq' : Q' (bs.getD i false) s' := hq
    rw [e] at hq'
    exact hq'
  · intro h' tk hk
    have e : (List.range its.toArray.size).all (fun i => bs.getD i false) = bs.all id := by
      rw [List.size_toArray, hlen]
      rw [Bool.eq_iff_iff, List.all_eq_true, List.all_eq_true]
      constructor
      · intro h b hb
        obtain ⟨i, hi, rfl⟩ := List.mem_iff_getElem.mp hb
        have := h i (List.mem_range.mpr hi)
        rw [List.getD_eq_getElem?_getD, List.getElem?_eq_getElem hi] at this
        exact this
      · intro h i hi
        have hi' := List.mem_range.mp hi
        rw [List.getD_eq_getElem?_getD, List.getElem?_eq_getElem hi']
        exact h _ (List.getElem_mem hi')
    rw [e]
    refine ⟨.bl _, H, I.kept (t' := tk) fun b o eb => hk b o ?_ (Heap.get?_push_of_some _ eb), rfl, q⟩
    intro z
    have : b = s.heap.objs.size := by simpa using z
    exact absurd (Heap.lt_size eb) (by rw [this]; exact Nat.lt_irrefl _)

/-! ### a tuple, n times -/
/-! ### wrappers -/
section
variable {X : Cx} {a b c e : Expr} {ta tb tc te : TE} {pos : Pos}
theorem qc_allB (hc : X.calm = true) : QCall X (.builtin "all") (fun xs H Q => ∃ (p : Addr) (bs : List Bool), xs = [V.ref p] ∧ SqL X.K H p (bs.map V.bl) ∧ Q (.bl (bs.all id)) H) := ⟨call_allB hc⟩
end
end L2

set_option maxRecDepth 100000
namespace RB
open PySem L2 PySem.Spec PyProof.Rows

/-! ### heaps that keep what stands -/
/-- all but S is kept -/
noncomputable def But (S : List Addr) (H H' : Hp) : Prop := ∀ b o, b ∉ S → H b = some o → H' b = some o
theorem But.refl (S : List Addr) (H : Hp) : But S H H := fun _ _ _ h => h
theorem But.trans {S : List Addr} {H H1 H2 : Hp} (a : But S H H1) (b : But S H1 H2) : But S H H2 := fun c o n h => b c o n (a c o n h)
theorem But.mono {S S' : List Addr} {H H' : Hp} (a : But S H H') (h : ∀ b ∈ S, b ∈ S') : But S' H H' := fun c o n q => a c o (fun z => n (h c z)) q
theorem But.set {S : List Addr} {H : Hp} {p : Addr} (o : HO) (h : p ∈ S) : But S H (upd H p o) := fun b u n q => by rw [upd_ne (show b ≠ p from fun e => n (by rw [e]; exact h))]; exact q
theorem But.of_same {S : List Addr} {H H' : Hp} (h : Same H H') : But S H H' := fun b o _ q => h b o q
theorem same_new {H : Hp} {p : Addr} (o : HO) (h : H p = none) : Same H (upd H p o) := fun b u q => by rw [upd_ne (ne_of_none q h)]; exact q
/-- tuples are kept -/
noncomputable def Tups (H H' : Hp) : Prop := ∀ b xs, H b = some (.tup xs) → H' b = some (.tup xs)
theorem Same.tups {H H' : Hp} (h : Same H H') : Tups H H' := fun b xs q => h b _ q

/-! ### recipes -/
inductive Op where | plus | minus | times | most
  deriving DecidableEq
noncomputable def Op.word : Op → Str
  | .plus => "plus" | .minus => "minus" | .times => "times" | .most => "most"
inductive R where
  | num (n : Int) | rd (x : Str) | bin (op : Op) (a b : R) | pick (a b c : R) | cho (a : R) (ns : List Str)
noncomputable def R.depth : R → Nat
  | .num _ => 1
  | .rd _ => 1
  | .bin _ a b => max a.depth b.depth + 1
  | .pick a b c => max a.depth (max b.depth c.depth) + 1
  | .cho a _ => a.depth + 1
noncomputable def isLow (c : Nat) : Prop := 97 ≤ c ∧ c ≤ 122
noncomputable def GName (x : Str) : Prop := 1 ≤ x.length ∧ x.length ≤ 8 ∧ ∀ c ∈ x.cps.toList, isLow c
noncomputable def R.Good : R → Prop
  | .num n => n.natAbs < 10 ^ 40
  | .rd x => GName x
  | .bin _ a b => a.Good ∧ b.Good
  | .pick a b c => a.Good ∧ b.Good ∧ c.Good
  | .cho a ns => a.Good ∧ 1 ≤ ns.length ∧ ns.length ≤ 9 ∧ ∀ x ∈ ns, GName x
inductive IsR (H : Hp) : Addr → R → Prop where
  | num {a : Addr} {n : Int} (e : H a = some (.tup [.str "number", .int n])) : IsR H a (.num n)
  | rd {a : Addr} {x : Str} (e : H a = some (.tup [.str "read", .str x])) : IsR H a (.rd x)
  | bin {a b c : Addr} {op : Op} {r s : R} (e : H a = some (.tup [.str op.word, .ref b, .ref c])) (h1 : IsR H b r) (h2 : IsR H c s) : IsR H a (.bin op r s)
  | pick {a b c d : Addr} {r s t : R} (e : H a = some (.tup [.str "pick", .ref b, .ref c, .ref d])) (h1 : IsR H b r) (h2 : IsR H c s) (h3 : IsR H d t) : IsR H a (.pick r s t)
  | cho {a b c : Addr} {r : R} {ns : List Str} (e : H a = some (.tup [.str "choose", .ref b, .ref c])) (h1 : IsR H b r) (h2 : H c = some (.tup (ns.map V.str))) : IsR H a (.cho r ns)
theorem IsR.tups {H H' : Hp} (t : Tups H H') {a : Addr} {r : R} (h : IsR H a r) : IsR H' a r := by
  induction h with
  | num e => exact .num (t _ _ e)
  | rd e => exact .rd (t _ _ e)
  | bin e _ _ i1 i2 => exact .bin (t _ _ e) i1 i2
  | pick e _ _ _ i1 i2 i3 => exact .pick (t _ _ e) i1 i2 i3
  | cho e _ h2 i1 => exact .cho (t _ _ e) i1 (t _ _ h2)
theorem IsR.same {H H' : Hp} (t : Same H H') {a : Addr} {r : R} (h : IsR H a r) : IsR H' a r := h.tups (Same.tups t)
theorem R.depth_pos (r : R) : 1 ≤ r.depth := by cases r <;> simp [R.depth]



/-! ### decks -/
/-- law(script) is True -/
noncomputable def spLaw (K : PySem.W.Frag) : Sp := fun vs H Q _ => ∃ (a : Addr) (ns : List Int), vs = [.ref a] ∧ SqL K H a (ns.map V.int) ∧ ns.length ≤ 63 ∧ ∀ H', Q (.bl true) H'

/-! ### a def of the text -/
structure FnT (K : PySem.W.Frag) (mg : Str → Option Value) (x : Str) (st : Stmt) (ps : List Str) (f : Addr) (fd : FuncData) : Prop where
  F : Fun K x x st f fd
  b : Binds K fd ps []
  m : mg x = some (.ref f)
/-- none of these is a name of the text's own -/
structure Blt (mg : Str → Option Value) : Prop where
  b_len : mg "len" = none
  b_range : mg "range" = none
  b_str : mg "str" = none
  b_int : mg "int" = none
  b_list : mg "list" = none
  b_tuple : mg "tuple" = none
  b_isinstance : mg "isinstance" = none
  b_bool : mg "bool" = none
  b_dict : mg "dict" = none
  b_sum : mg "sum" = none
  b_all : mg "all" = none
  b_any : mg "any" = none
  b_max : mg "max" = none
  b_min : mg "min" = none
  b_sorted : mg "sorted" = none
  b_set : mg "set" = none
  b_enumerate : mg "enumerate" = none
  b_zip : mg "zip" = none
  b_reversed : mg "reversed" = none
  b_abs : mg "abs" = none
end RB
namespace RB
open PySem L2 PySem.Spec PyProof.Rows
theorem at_ok {xs : List Int} {i : Int} (h0 : 0 ≤ i) (h1 : i < ((xs.map V.int).length : Int)) : ∃ v j, atI (xs.map V.int) i = some (.int v) ∧ ixN (xs.map V.int).length i = some j ∧ j < xs.length ∧ ∀ u : Int, (xs.map V.int).set j (.int u) = (xs.set j u).map V.int := by
  have hl : (xs.map V.int).length = xs.length := List.length_map _
  obtain ⟨j, rfl⟩ := Int.eq_ofNat_of_zero_le h0
  have hj : j < xs.length := by omega
  refine ⟨xs[j], j, atI_nat (by rw [List.getElem?_map, List.getElem?_eq_getElem hj]; rfl), ?_, hj, fun u => ?_⟩
  · unfold ixN
    rw [if_pos h0, if_pos (by omega)]
    simp
  · rw [List.map_set]
end RB
namespace RB
open PySem L2 PySem.Spec PyProof.Rows
theorem But.upd {S : List Addr} {H H' : Hp} {p : Addr} (b : But S H H') (o : HO) (h : H p = none) : But S H (upd H' p o) := fun c u n q => by
  rw [upd_ne (ne_of_none q h)]; exact b c u n q
instance (x : Str) : Decidable (GName x) := by unfold GName isLow; exact inferInstance
theorem letters_cps : (Str.ofString "abcdefghijklmnopqrstuvwxyz").cps.toList = (List.range 26).map (· + 97) := by decide +kernel
end RB

namespace RB
open PySem L2 PySem.Spec PyProof.Rows
theorem never {P : Program} {w : World} {K : PySem.W.Frag} {mg : Str → Option Value} {base : Heap} {k : Nat} {f : Addr} {fd : FuncData} {ps : List Str} {sp : Sp} (no : ∀ vs H Q E, ¬ sp vs H Q E) : FnOk P w K mg base CX0 k f fd ps sp :=
  ⟨fun vs H Q E h => absurd h (no vs H Q E), fun A outer s H args us vs Q E _ _ _ _ h => absurd h (no vs H Q E)⟩
end RB
namespace RB
open PySem L2 PySem.Spec PyProof.Rows
end RB
namespace RB
open PySem L2 PySem.Spec PyProof.Rows
theorem shaped_ints (ns : List Int) : SeqAt.shaped (.list (ns.map PyData.int)) = true := by
  simp [SeqAt.shaped, PyData.canLay0, PyData.canLayAll0, PyData.depth, PyData.depthAll, PySem.W.ke_canLayAll0, PySem.W.ke_depthAll]
end RB
namespace RB
open PySem L2 PySem.Spec PyProof.Rows
end RB
namespace RB
open PySem L2 PySem.Spec PyProof.Rows
theorem same_updN {H H' : Hp} {p : Addr} (o : HO) (h : H p = none) (s : Same H H') : Same H (upd H' p o) := fun b u q => by
  rw [upd_ne (ne_of_none q h)]; exact s b u q
end RB
namespace RB
open PySem L2 PySem.Spec PyProof.Rows
end RB

set_option maxRecDepth 100000
namespace RB
open PySem L2 PySem.Spec PyProof.Rows

/-! ### any thing, and whether it is a recipe -/
inductive Th where
  | non | bl (b : Bool) | int (i : Int) | str (x : Str) | tup (xs : List Th) | oth (T : String)
mutual
inductive IsTh (K : PySem.W.Frag) (H : Hp) : V → Th → Prop where
  | non : IsTh K H .non .non
  | bl (b : Bool) : IsTh K H (.bl b) (.bl b)
  | int (i : Int) : IsTh K H (.int i) (.int i)
  | str (x : Str) : IsTh K H (.str x) (.str x)
  | tup {a : Addr} {vs : List V} {ts : List Th} (e : H a = some (.tup vs)) (h : IsThs K H vs ts) : IsTh K H (.ref a) (.tup ts)
  | oth {a : Addr} {T : String} (h : TyOf K H (.ref a) (.type T)) (hT : T = "list" ∨ T = "dict") (keep : ∀ H', Same H H' → TyOf K H' (.ref a) (.type T)) : IsTh K H (.ref a) (.oth T)
inductive IsThs (K : PySem.W.Frag) (H : Hp) : List V → List Th → Prop where
  | nil : IsThs K H [] []
  | cons {v : V} {t : Th} {vs : List V} {ts : List Th} (h : IsTh K H v t) (r : IsThs K H vs ts) : IsThs K H (v :: vs) (t :: ts)
end
mutual
theorem IsTh.same {K : PySem.W.Frag} {H H' : Hp} (s : Same H H') : ∀ {v : V} {t : Th}, IsTh K H v t → IsTh K H' v t
  | _, _, .non => .non
  | _, _, .bl b => .bl b
  | _, _, .int i => .int i
  | _, _, .str x => .str x
  | _, _, .tup e h => .tup (s _ _ e) (IsThs.same s h)
  | _, _, .oth h hT k => .oth (k _ s) hT fun H2 s2 => k _ (s.trans s2)
theorem IsThs.same {K : PySem.W.Frag} {H H' : Hp} (s : Same H H') : ∀ {vs : List V} {ts : List Th}, IsThs K H vs ts → IsThs K H' vs ts
  | _, _, .nil => .nil
  | _, _, .cons h r => .cons (IsTh.same s h) (IsThs.same s r)
end
theorem IsThs.length {K : PySem.W.Frag} {H : Hp} : ∀ {vs : List V} {ts : List Th}, IsThs K H vs ts → vs.length = ts.length
  | _, _, .nil => rfl
  | _, _, .cons _ r => congrArg (· + 1) (IsThs.length r)
theorem IsThs.get {K : PySem.W.Frag} {H : Hp} : ∀ {vs : List V} {ts : List Th} {i : Nat} {v : V}, IsThs K H vs ts → vs[i]? = some v → ∃ t, ts[i]? = some t ∧ IsTh K H v t
  | _, _, _, _, .nil, e => by simp at e
  | _, _, 0, _, .cons h _, e => by simp at e; subst e; exact ⟨_, rfl, h⟩
  | _, _, i + 1, v, .cons _ r, e => by
    obtain ⟨t, h1, h2⟩ := IsThs.get (i := i) (v := v) r (by simpa using e)
    exact ⟨t, by simpa using h1, h2⟩
noncomputable def tyTh : Th → String
  | .non => "NoneType" | .bl _ => "bool" | .int _ => "int" | .str _ => "str" | .tup _ => "tuple" | .oth T => T
theorem IsTh.ty {K : PySem.W.Frag} {H : Hp} {v : V} {t : Th} (h : IsTh K H v t) : TyOf K H v (.type (tyTh t)) := by
  cases h with
  | non => exact .non
  | bl b => exact .bl b
  | int i => exact .int i
  | str x => exact .str x
  | tup e _ => exact .tup e
  | oth h _ _ => exact h
noncomputable def tys : List String := ["NoneType", "bool", "int", "str", "tuple", "list", "dict"]
noncomputable def subT (t c : String) : Bool := t == c || (t == "bool" && c == "int")
/-- what isinstance tells of built-in classes -/
noncomputable def Kinds (K : PySem.W.Frag) : Prop := ∀ t ∈ tys, ∀ c ∈ tys, PySem.W.kitOne K (.type t) (.type c) = some (subT t c)
theorem kinds_mk {K : PySem.W.Frag} (h : (tys.all fun t => tys.all fun c => PySem.W.kitOne K (.type t) (.type c) == some (subT t c)) = true) : Kinds K := fun t ht c hc => by
  have h1 := List.all_eq_true.mp h t ht
  have h2 := List.all_eq_true.mp h1 c hc
  exact eq_of_beq h2
theorem ty_mem {K : PySem.W.Frag} {H : Hp} {v : V} {t : Th} (h : IsTh K H v t) : tyTh t ∈ tys := by
  cases h with
  | oth _ hT _ => rcases hT with rfl | rfl <;> simp [tyTh, tys]
  | _ => simp [tyTh, tys]
theorem IsTh.isi {K : PySem.W.Frag} {H : Hp} {v : V} {t : Th} (h : IsTh K H v t) (k : Kinds K) {c : String} (hc : c ∈ tys) : PySem.W.kitOne K (.type (tyTh t)) (.type c) = some (subT (tyTh t) c) := k _ (ty_mem h) _ hc

noncomputable def wholeT : Th → Bool
  | .int _ => true
  | _ => false
/-! ### contracts -/
noncomputable def spWhole (K : PySem.W.Frag) : Sp := fun vs H Q _ => ∃ v t, vs = [v] ∧ IsTh K H v t ∧ Q (.bl (wholeT t)) H
theorem itB_t {b : Bool} {A B : Prop} (h : b = true) (hA : A) : if b = true then A else B := by rw [if_pos h]; exact hA
theorem itB_f {b : Bool} {A B : Prop} (h : b = false) (hB : B) : if b = true then A else B := by rw [if_neg (by rw [h]; exact Bool.false_ne_true)]; exact hB
end RB

set_option maxRecDepth 100000
namespace RB
open PySem L2 PySem.Spec PyProof.Rows
/-! ### recipes whose read names may be none -/
noncomputable def R.toTh : R → Th
  | .num n => .tup [.str "number", .int n]
  | .rd x => .tup [.str "read", .str x]
  | .bin op a b => .tup [.str op.word, a.toTh, b.toTh]
  | .pick a b c => .tup [.str "pick", a.toTh, b.toTh, c.toTh]
  | .cho a ns => .tup [.str "choose", a.toTh, .tup (ns.map Th.str)]
noncomputable def R.Fine : R → Prop
  | .num _ => True
  | .rd x => x.length ≤ 8 ∧ ∀ c ∈ x.cps.toList, c < 128
  | .bin _ a b => a.Fine ∧ b.Fine
  | .pick a b c => a.Fine ∧ b.Fine ∧ c.Fine
  | .cho a ns => a.Fine ∧ 1 ≤ ns.length ∧ ns.length ≤ 9 ∧ ∀ x ∈ ns, GName x
theorem strs_isThs {K : PySem.W.Frag} {H : Hp} : ∀ ns : List Str, IsThs K H (ns.map V.str) (ns.map Th.str)
  | [] => .nil
  | x :: r => .cons (.str x) (strs_isThs r)
theorem IsR.isTh {K : PySem.W.Frag} {H : Hp} {a : Addr} {r : R} (h : IsR H a r) : IsTh K H (.ref a) r.toTh := by
  induction h with
  | num e => exact .tup e (.cons (.str _) (.cons (.int _) .nil))
  | rd e => exact .tup e (.cons (.str _) (.cons (.str _) .nil))
  | bin e _ _ i1 i2 => exact .tup e (.cons (.str _) (.cons i1 (.cons i2 .nil)))
  | pick e _ _ _ i1 i2 i3 => exact .tup e (.cons (.str _) (.cons i1 (.cons i2 (.cons i3 .nil))))
  | cho e _ h2 i1 => exact .tup e (.cons (.str _) (.cons i1 (.cons (.tup h2 (strs_isThs _)) .nil)))
theorem depth_strs : ∀ l : List Str, PyData.depthAll (l.map PyData.str) ≤ 1
  | [] => by simp [PyData.depthAll]
  | c :: r => by
    have := depth_strs r
    simp [PyData.depthAll, PyData.depth]
    omega
end RB

set_option maxRecDepth 100000
namespace L2
open PySem PySem.Spec PyProof.Rows
theorem Fun.okQ {P : Program} {w : World} {K : PySem.W.Frag} {mg : Str → Option Value} {base : Heap} {x qual : Str} {st : Stmt} {f : Addr} {fd : FuncData} {N ps : List Str} {k : Nat} {sp : Sp} (F : Fun K x qual st f fd) (S : FnScope N ps (defScope st)) (len : ∀ vs H Q E, sp vs H Q E → vs.length = ps.length)
    (hbody : ∀ (cdv : Value) (A : Around) (outer : List Env) (s : Shared) (H : Hp) (vs : List V) (Q : VK) (E : XK), Room k (A.deeper (envOfC qual (defScope st) s.heap.objs.size f cdv)) → sp vs H Q E →
      ∃ t, QSs (cxOf CX0 P w K mg base N qual (defScope st) f cdv A outer s H E).nox (defBody st) t ∧ t { nx := fun _ H' => Q .non H', rt := Q } (start N vs) H) : FnOk P w K mg base CX0 (k + 1) f fd ps sp :=
  F.ok S len fun cdv A outer s H vs Q E hr hsp => let ⟨t, a, b⟩ := hbody cdv A outer s H vs Q E hr hsp; ⟨t, a.h, b⟩
end L2
namespace RB
open PySem L2 PySem.Spec PyProof.Rows
/-! ### the parts of a display or a call, by their kinds: the star's row is not reckoned anew for each -/
theorem star_C (value : Const) (k : Nat) (p : Pos) (es : List Expr) (env : Env) : starEach (.Constant value k p :: es) env = (false, eval (.Constant value k p) env) :: starEach es env := rfl
theorem qa_C {X : Cx} {value : Const} {k : Nat} {p : Pos} {es : List Expr} {te : TE} {t : TA} (ha : QE X (.Constant value k p) te) (hr : QA X es t) : QA X (.Constant value k p :: es) (tCons te t) := qa_cons ha hr (star_C value k p _ _)
theorem star_N (x : Str) (p : Pos) (es : List Expr) (env : Env) : starEach (.Name x p :: es) env = (false, eval (.Name x p) env) :: starEach es env := rfl
theorem qa_N {X : Cx} {x : Str} {p : Pos} {es : List Expr} {te : TE} {t : TA} (ha : QE X (.Name x p) te) (hr : QA X es t) : QA X (.Name x p :: es) (tCons te t) := qa_cons ha hr (star_N x p _ _)
theorem star_B (a : Expr) (op : Operator) (b : Expr) (p : Pos) (es : List Expr) (env : Env) : starEach (.BinOp a op b p :: es) env = (false, eval (.BinOp a op b p) env) :: starEach es env := rfl
theorem qa_B {X : Cx} {a : Expr} {op : Operator} {b : Expr} {p : Pos} {es : List Expr} {te : TE} {t : TA} (ha : QE X (.BinOp a op b p) te) (hr : QA X es t) : QA X (.BinOp a op b p :: es) (tCons te t) := qa_cons ha hr (star_B a op b p _ _)
theorem star_U (op : UnaryOp) (a : Expr) (p : Pos) (es : List Expr) (env : Env) : starEach (.UnaryOp op a p :: es) env = (false, eval (.UnaryOp op a p) env) :: starEach es env := rfl
theorem qa_U {X : Cx} {op : UnaryOp} {a : Expr} {p : Pos} {es : List Expr} {te : TE} {t : TA} (ha : QE X (.UnaryOp op a p) te) (hr : QA X es t) : QA X (.UnaryOp op a p :: es) (tCons te t) := qa_cons ha hr (star_U op a p _ _)
theorem star_K (a : Expr) (ops : List CmpOp) (cs : List Expr) (p : Pos) (es : List Expr) (env : Env) : starEach (.Compare a ops cs p :: es) env = (false, eval (.Compare a ops cs p) env) :: starEach es env := rfl
theorem qa_K {X : Cx} {a : Expr} {ops : List CmpOp} {cs : List Expr} {p : Pos} {es : List Expr} {te : TE} {t : TA} (ha : QE X (.Compare a ops cs p) te) (hr : QA X es t) : QA X (.Compare a ops cs p :: es) (tCons te t) := qa_cons ha hr (star_K a ops cs p _ _)
theorem star_T (xs : List Expr) (k : Nat) (p : Pos) (es : List Expr) (env : Env) : starEach (.Tuple xs k p :: es) env = (false, eval (.Tuple xs k p) env) :: starEach es env := rfl
theorem qa_T {X : Cx} {xs : List Expr} {k : Nat} {p : Pos} {es : List Expr} {te : TE} {t : TA} (ha : QE X (.Tuple xs k p) te) (hr : QA X es t) : QA X (.Tuple xs k p :: es) (tCons te t) := qa_cons ha hr (star_T xs k p _ _)
theorem star_D (ks : List (Option Expr)) (xs : List Expr) (p : Pos) (es : List Expr) (env : Env) : starEach (.Dict ks xs p :: es) env = (false, eval (.Dict ks xs p) env) :: starEach es env := rfl
theorem qa_D {X : Cx} {ks : List (Option Expr)} {xs : List Expr} {p : Pos} {es : List Expr} {te : TE} {t : TA} (ha : QE X (.Dict ks xs p) te) (hr : QA X es t) : QA X (.Dict ks xs p :: es) (tCons te t) := qa_cons ha hr (star_D ks xs p _ _)
theorem star_S (a b : Expr) (p : Pos) (es : List Expr) (env : Env) : starEach (.Subscript a b p :: es) env = (false, eval (.Subscript a b p) env) :: starEach es env := rfl
theorem qa_S {X : Cx} {a b : Expr} {p : Pos} {es : List Expr} {te : TE} {t : TA} (ha : QE X (.Subscript a b p) te) (hr : QA X es t) : QA X (.Subscript a b p :: es) (tCons te t) := qa_cons ha hr (star_S a b p _ _)
theorem star_F (f : Expr) (xs : List Expr) (ks : List Keyword) (p : Pos) (es : List Expr) (env : Env) : starEach (.Call f xs ks p :: es) env = (false, eval (.Call f xs ks p) env) :: starEach es env := rfl
theorem qa_F {X : Cx} {f : Expr} {xs : List Expr} {ks : List Keyword} {p : Pos} {es : List Expr} {te : TE} {t : TA} (ha : QE X (.Call f xs ks p) te) (hr : QA X es t) : QA X (.Call f xs ks p :: es) (tCons te t) := qa_cons ha hr (star_F f xs ks p _ _)
theorem star_M (e : Expr) (gs : List Comprehension) (sc : Scope) (p : Pos) (es : List Expr) (env : Env) : starEach (.ListComp e gs sc p :: es) env = (false, eval (.ListComp e gs sc p) env) :: starEach es env := rfl
theorem qa_M {X : Cx} {e : Expr} {gs : List Comprehension} {sc : Scope} {p : Pos} {es : List Expr} {te : TE} {t : TA} (ha : QE X (.ListComp e gs sc p) te) (hr : QA X es t) : QA X (.ListComp e gs sc p :: es) (tCons te t) := qa_cons ha hr (star_M e gs sc p _ _)
end RB

set_option maxRecDepth 100000
namespace RB
open PySem L2 PySem.Spec PyProof.Rows
/-! ### a list held against [] -/
noncomputable def rEqNil (K : PySem.W.Frag) : R2 := fun x y H Q => ∃ a b xs, x = .ref a ∧ y = .ref b ∧ SqL K H a xs ∧ SqL K H b [] ∧ Q (.bl xs.isEmpty) H
theorem op_eqNil {X : Cx} (hu : X.A.units + 64 < cLine) : OpR X (compareOp .Eq) (rEqNil X.K) := by
  intro pins s σ H x y v u Q I rx ry h
  obtain ⟨a, b, xs, rfl, rfl, ha, hb, q⟩ := h
  cases xs with
  | nil => exact op_eqD hu pins s σ H _ _ v u Q I rx ry ⟨.list [], .list [], .lst ha .nil, .lst hb .nil, shaped_ints [], shaped_ints [], q⟩
  | cons x r =>
    cases rx
    cases ry
    obtain ⟨its, rv, pl, _⟩ := I.list ha
    obtain ⟨its', rv', pl', _⟩ := I.list hb
    cases rv
    cases rv'
    exact PySem.SeqAt.eq_list_lengthsAt pl.isList pl'.isList rfl (by omega) ⟨.bl false, H, I, rfl, q⟩
theorem qop_eqNil {X : Cx} (hu : X.A.units + 64 < cLine) : QOp X (compareOp .Eq) (rEqNil X.K) := ⟨op_eqNil hu⟩
theorem qe_dnewK {X : Cx} {pos : Pos} : QE X (.Dict [] [] pos) tDNewK := ⟨pe_dnewK⟩
theorem op_notB {X : Cx} : OpR X (compareOp .IsNot) (fun x y H Q => ∃ a b, x = .bl a ∧ y = .bl b ∧ Q (.bl (!decide (a = b))) H) := by
  intro pins s σ H x y v u Q I rx ry h
  obtain ⟨a, b, rfl, rfl, q⟩ := h
  cases rx
  cases ry
  exact wpAny_isNot_plain (by cases a <;> cases b <;> rfl) (fin_bl I q (by cases a <;> cases b <;> rfl))
theorem qop_notB {X : Cx} : QOp X (compareOp .IsNot) (fun x y H Q => ∃ a b, x = .bl a ∧ y = .bl b ∧ Q (.bl (!decide (a = b))) H) := ⟨op_notB⟩
noncomputable def rCatT2 (K : PySem.W.Frag) : R2 := fun x y H Q => ∃ a b xs ys, x = .ref a ∧ y = .ref b ∧ H a = some (.tup xs) ∧ H b = some (.tup ys) ∧ xs ≠ [] ∧ xs.length + ys.length ≤ sizeLine ∧
  ∀ p H', Same H H' → H' p = some (.tup (xs ++ ys)) → Q (.ref p) H'
theorem qop_catT2 {X : Cx} : QOp X (binaryOp .Add) (rCatT2 X.K) := ⟨fun pins s σ H x y v u Q I rx ry h => by
  obtain ⟨a, b, xs, ys, h1, h2, e, e2, h4, h5, q⟩ := h
  exact op_catT pins s σ H x y v u Q I rx ry ⟨a, b, xs, ys, h1, h2, SqT.of e, SqT.of e2, h4, h5, fun z => q a H (Same.refl _) (by subst z; rw [e]; simp), fun _ p hp => q p _ (same_new _ hp) upd_same⟩⟩

/-! ### things whose texts are short and plain -/

/-! ### things while the lists at S may be changed -/

/-! ### how many recipes -/
/-! ### contracts of the law's own words over any thing -/
end RB

set_option maxRecDepth 100000
namespace L2
open PySem PySem.Spec PyProof.Rows
section
variable {X : Cx} {pins : List (Addr × Obj)} {σ : L2.St} {H : Hp} {s : Shared}
/-! ### texts: startswith from a place, a slice, the number that is written -/
end
/-! ### own objects -/
section
variable {X : Cx} {o e value : Expr} {es : List Expr} {f m : Str} {pos pos' apos : Pos} {ta tv : TE} {t : TA} {C fa : Addr} {CX : CXT} {k : Nat} {fd : FuncData} {ps : List Str} {sp : Sp} {dvs : List V} {ds : List Value} {E : XK}
end
end L2

set_option maxRecDepth 100000
namespace RB
open PySem L2 PySem.Spec PyProof.Rows
/-! ### a reader: its text and its place -/
end RB

set_option maxRecDepth 100000
namespace RB
open PySem L2 PySem.Spec PyProof.Rows
/-! ### the figures of a number -/
theorem lenL (x : Str) : x.cps.toList.length = x.length := by simp [Str.length]
end RB

set_option maxRecDepth 100000
namespace RB
open PySem L2 PySem.Spec PyProof.Rows
end RB

set_option maxRecDepth 100000
namespace RB
open PySem L2 PySem.Spec PyProof.Rows
/-! ### a recipe's core and the choices behind it -/
end RB

set_option maxRecDepth 100000
namespace RB
open PySem L2 PySem.Spec PyProof.Rows
end RB

set_option maxRecDepth 100000
namespace RB
open PySem L2 PySem.Spec PyProof.Rows
/-! ### rows of recipes, with their weight -/
end RB

set_option maxRecDepth 100000
namespace RB
open PySem L2 PySem.Spec PyProof.Rows
/-! ### recipes as data -/
noncomputable def R.dat : R → PyData
  | .num n => .tuple [.str "number", .int n]
  | .rd x => .tuple [.str "read", .str x]
  | .bin op a b => .tuple [.str op.word, a.dat, b.dat]
  | .pick a b c => .tuple [.str "pick", a.dat, b.dat, c.dat]
  | .cho a ns => .tuple [.str "choose", a.dat, .tuple (ns.map PyData.str)]
theorem IsR.dat {K : PySem.W.Frag} {H : Hp} {a : Addr} {r : R} (h : IsR H a r) : DatV K H (.ref a) r.dat := by
  induction h with
  | num e => exact .tup (SqT.of e) (.cons (.str _) (.cons (.int _) .nil))
  | rd e => exact .tup (SqT.of e) (.cons (.str _) (.cons (.str _) .nil))
  | bin e _ _ i1 i2 => exact .tup (SqT.of e) (.cons (.str _) (.cons i1 (.cons i2 .nil)))
  | pick e _ _ _ i1 i2 i3 => exact .tup (SqT.of e) (.cons (.str _) (.cons i1 (.cons i2 (.cons i3 .nil))))
  | cho e _ h2 i1 => exact .tup (SqT.of e) (.cons (.str _) (.cons i1 (.cons (.tup (SqT.of h2) (datVs_strs _)) .nil)))
theorem strOk_low {x : Str} (h : ∀ c ∈ x.cps.toList, c < 128) : PyData.strOk x = true := by
  show x.cps.all (· < 0x110000) = true
  rw [← Array.all_toList, List.all_eq_true]
  intro c hc
  exact decide_eq_true (by have := h c hc; omega)
theorem strOk_name {x : Str} (h : GName x) : PyData.strOk x = true := strOk_low fun c hc => by have := h.2.2 c hc; unfold isLow at this; omega
theorem strOk_word (op : Op) : PyData.strOk op.word = true := by cases op <;> decide +kernel
theorem lay_names : ∀ ns : List Str, (∀ x ∈ ns, GName x) → PyData.canLayAll0 (ns.map PyData.str) = true
  | [], _ => rfl
  | x :: r, h => by
    show (PyData.canLay0 (.str x) && PyData.canLayAll0 (r.map PyData.str)) = true
    rw [lay_names r fun y hy => h y (List.mem_cons_of_mem _ hy)]
    show (PyData.strOk x && true) = true
    rw [strOk_name (h x List.mem_cons_self)]; rfl
theorem R.lay : ∀ r : R, r.Good → r.dat.canLay0 = true
  | .num n, _ => by show (PyData.strOk "number" && (true && true)) = true; decide +kernel
  | .rd x, h => by
    show (PyData.strOk "read" && (PyData.strOk x && true)) = true
    rw [strOk_name h]; decide +kernel
  | .bin op a b, h => by
    show (PyData.strOk op.word && (a.dat.canLay0 && (b.dat.canLay0 && true))) = true
    rw [strOk_word, R.lay a h.1, R.lay b h.2]; rfl
  | .pick a b c, h => by
    show (PyData.strOk "pick" && (a.dat.canLay0 && (b.dat.canLay0 && (c.dat.canLay0 && true)))) = true
    rw [R.lay a h.1, R.lay b h.2.1, R.lay c h.2.2]; decide +kernel
  | .cho a ns, h => by
    show (PyData.strOk "choose" && (a.dat.canLay0 && (PyData.canLayAll0 (ns.map PyData.str) && true))) = true
    rw [R.lay a h.1, lay_names ns h.2.2.2]; decide +kernel
theorem R.dat_depth : ∀ r : R, r.dat.depth ≤ r.depth + 2
  | .num n => by simp [R.dat, R.depth, PyData.depth, PyData.depthAll]
  | .rd x => by simp [R.dat, R.depth, PyData.depth, PyData.depthAll]
  | .bin op a b => by
    have := R.dat_depth a
    have := R.dat_depth b
    simp only [R.dat, R.depth, PyData.depth, PyData.depthAll]; omega
  | .pick a b c => by
    have := R.dat_depth a
    have := R.dat_depth b
    have := R.dat_depth c
    simp only [R.dat, R.depth, PyData.depth, PyData.depthAll]; omega
  | .cho a ns => by
    have := R.dat_depth a
    have := depth_strs ns
    have := a.depth_pos
    simp only [R.dat, R.depth, PyData.depth, PyData.depthAll]; omega
theorem R.shaped {r : R} (h : r.Good) (hd : r.depth ≤ 8) : SeqAt.shaped r.dat = true := by
  show (r.dat.canLay0 && decide (r.dat.depth ≤ 64)) = true
  have := r.dat_depth
  rw [r.lay h, decide_eq_true (by omega)]; rfl
end RB

set_option maxRecDepth 100000
namespace L2
open PySem PySem.Spec PyProof.Rows
/-! ### an exception that flies -/
section
variable {X : Cx} {pins : List (Addr × Obj)} {σ : St} {H H' : Hp} {s s' : Shared} {a : Addr} {cls : Value}
end
section
variable {P : Program} {w : World} {K : PySem.W.Frag} {mg : Str → Option Value} {base : Heap} {N : List Str} {qual : Str} {scope : Scope} {f : Addr} {cd : Value} {A : Around} {outer : List Env} {s₀ : Shared} {H₀ : Hp} {E : XK}
end
end L2

set_option maxRecDepth 100000
namespace L2
open PySem PySem.Spec PyProof.Rows
section
variable {X : Cx} {pins : List (Addr × Obj)} {σ : St} {H H' : Hp} {s s' : Shared} {a : Addr} {cls : Value}
/-! ### try -/
/-- an object that stands is tracked from here on -/
theorem Inv.track {o : HO} (I : Inv X pins σ H s) (hn : H a = none) (h0 : X.s₀.heap.get? a = none) (hL : a ≠ X.env.locals) (hC : ∀ x c, X.env.cells.lookup x = some c → c ≠ a) (hp : ∀ p ∈ X.pn ++ pins, p.1 ≠ a)
    (new : ObjOk X.prog X.w (upd H a o) s.heap a o) : Inv X pins σ (upd H a o) s := by
  refine ⟨I.ok, I.os, I.bare, ⟨fun b u q n hb hx => I.base.keep b u q n hb hx, fun b u q n hb hx => I.base.slot b u q n hb hx, fun b u q n hx => ?_, I.base.there, fun b xs q => ?_, fun b u v q => ?_, fun b ps q => ?_⟩, I.loc, I.cell, ?_, fun x c e => ?_, fun p q => ?_, fun b u q => ?_, I.len⟩
  · rw [upd_ne (fun z => by rw [z, h0] at q; cases q)]; exact I.base.free b u q n hx
  · have e := I.base.tups b xs q
    rw [upd_ne (ne_of_none e hn)]; exact e
  · have e := I.base.frzs b u v q
    rw [upd_ne (ne_of_none e hn)]; exact e
  · obtain ⟨m, e⟩ := I.base.tbls b ps q
    exact ⟨m, by rw [upd_ne (ne_of_none e hn)]; exact e⟩
  · rw [upd_ne (Ne.symm hL)]; exact I.free
  · rw [upd_ne (hC x c e)]; exact I.freeC x c e
  · obtain ⟨e, n, r⟩ := I.pin p q
    exact ⟨e, by rw [upd_ne (hp p q)]; exact n, r⟩
  · by_cases hb : b = a
    · subst hb; rw [upd_same] at q; cases q; exact new
    · rw [upd_ne hb] at q
      exact (I.hok b u q).stay (fun c v _ r => r) (fun c r => by rw [upd_ne (ne_of_none r hn)]; exact r) fun c xs r => by rw [upd_ne (ne_of_none r hn)]; exact r
end
section
variable {X : Cx} {x n : Str} {i : Nat} {C : Addr} {np hpos pos : Pos} {body suite : List Stmt} {b₀ : Stmt} {tb : (St → XK) → TS} {th : TS}
end
end L2

set_option maxRecDepth 100000
namespace L2
open PySem PySem.Spec PyProof.Rows PySem.W
section
variable {prog : Program} {w : World} {A : Around} {E : Value → Shared → Prop} {h : Heap} {g : Array GenState} {d : Drawn} {t : Nat} {os : OsState} {K : PySem.W.Frag} {a C : Addr} {o : Obj}
end
end L2

set_option maxRecDepth 100000
namespace L2
open PySem PySem.Spec PyProof.Rows
section
variable {X : Cx} {pins : List (Addr × Obj)} {σ : St} {H H' : Hp} {s s' : Shared}
/-! ### f"{x!r} .." of a short text: some text -/
end
/-! ### defs that raise; calls in a try's body -/
section
variable {P : Program} {w : World} {K : PySem.W.Frag} {mg : Str → Option Value} {base : Heap} {N : List Str} {qual : Str} {scope : Scope} {f : Addr} {cd : Value} {A : Around} {outer : List Env} {s₀ : Shared} {H₀ : Hp} {E : XK}
end
section
variable {X : Cx} {CX : CXT} {k : Nat} {f : Addr} {fd : FuncData} {ps : List Str} {sp : Sp} {dvs : List V} {ds : List Value} {E : St → XK} {x : Str} {p pos : Pos} {e : Expr} {es : List Expr} {t : TA}
end
end L2
namespace RB
open PySem L2 PySem.Spec PyProof.Rows
end RB

set_option maxRecDepth 100000
namespace RB
open PySem L2 PySem.Spec PyProof.Rows
/-! ### the reader's mirror: what is read of a row of signs, and what is left -/
/-! ### the reader's state: the rest of its text -/
end RB

set_option maxRecDepth 100000
namespace RB
open PySem L2 PySem.Spec PyProof.Rows
end RB

set_option maxRecDepth 100000
namespace RB
open PySem L2 PySem.Spec PyProof.Rows
end RB

set_option maxRecDepth 100000
namespace RB
open PySem L2 PySem.Spec PyProof.Rows
/-! ### names in what is read -/
/-! ### read_recipe of anything -/
/-! ### texts that write none -/
/-! ### sums of a -/
end RB

set_option maxRecDepth 100000
namespace L2
open PySem PySem.Spec PyProof.Rows
/-- a text k times -/
noncomputable def repS (t : Str) (k : Nat) : Str := ⟨((List.replicate k t.cps.toList).flatten).toArray⟩
theorem foldA (t : Array Nat) : ∀ (k : Nat) (acc : Array Nat), ((List.replicate k t).foldl (· ++ ·) acc).toList = acc.toList ++ (List.replicate k t.toList).flatten
  | 0, acc => by simp
  | k + 1, acc => by
    rw [List.replicate_succ, List.foldl_cons, foldA t k, Array.toList_append, List.replicate_succ, List.flatten_cons, List.append_assoc]
theorem mul_rep {t : Str} {n : Int} (h : 1 ≤ n) : Txt.mul t n = repS t n.toNat := by
  unfold Txt.mul
  rw [if_neg (by omega)]
  split
  · rename_i hc
    unfold repS
    rcases Bool.or_eq_true_iff.mp hc with z | z
    · have : n = 1 := by simpa using z
      subst this
      cases t; simp
    · have z' : t.length = 0 := by simpa using z
      have e : t.cps.toList = [] := by
        have := z'
        unfold Str.length at this
        simpa using this
      rw [e]
      cases t with
      | mk c =>
        have e' : c = #[] := by simpa using e
        subst e'
        simp
  · unfold repS
    have e := foldA t.cps n.toNat #[]
    generalize (List.replicate n.toNat t.cps).foldl (· ++ ·) #[] = A at e
    have : A = ((List.replicate n.toNat t.cps.toList).flatten).toArray := by
      have e2 := congrArg List.toArray e
      simpa using e2
    rw [this]
end L2
namespace RB
open PySem L2 PySem.Spec PyProof.Rows
theorem rep_list (t : Str) (k : Nat) : (repS t k).cps.toList = (List.replicate k t.cps.toList).flatten := by unfold repS; simp
theorem rep_len (t : Str) (k : Nat) : (repS t k).length = k * t.length := by
  rw [← lenL, rep_list, len_rep, lenL]
/-! ### rows of sums, as texts -/
end RB

set_option maxRecDepth 100000
namespace RB
open PySem L2 PySem.Spec PyProof.Rows PySem.NumText
/-! ### what the mirror reads, written again -/
end RB

set_option maxRecDepth 100000
namespace RB
open PySem L2 PySem.Spec PyProof.Rows PySem.NumText
/-! ### what is written is read -/
end RB

set_option maxRecDepth 100000
namespace L2
open PySem PySem.Spec PyProof.Rows
/-! ### try / except C, with no name -/
section
variable {X : Cx} {x : Str} {C : Addr} {np hpos pos : Pos} {body suite : List Stmt} {b₀ : Stmt} {tb : (St → XK) → TS} {th : TS}
end
end L2

set_option maxRecDepth 100000
namespace RB
open PySem L2 PySem.Spec PyProof.Rows
/-! ### a set of texts -/
section
variable {prog : Program} {w : World} {A : Around} {R : Result → Shared → Prop} {I : Addr} {fp wr : List Addr} {G : Array GenState → Array GenState → Prop} {n : Nat} {P : Nat → Value → Prop} {St : Nat → Shared → Prop}
end
end RB

set_option maxRecDepth 100000
namespace RB
open PySem L2 PySem.Spec PyProof.Rows
section
variable {prog : Program} {w : World} {A : Around} {E : Value → Shared → Prop} {s : Shared}
set_option maxHeartbeats 3200000 in
end
end RB

set_option maxRecDepth 100000
namespace L2
open PySem PySem.Spec PyProof.Rows RB
section
variable {X : Cx}
/-! ### startswith, endswith of a whole text -/
end
end L2

set_option maxRecDepth 100000
namespace L2
open PySem PySem.Spec PyProof.Rows
section
variable {X : Cx} {pins : List (Addr × Obj)} {σ : List (Option V)} {H : Hp} {s : Shared} {h' : Heap}
/-- untracked records of ours (an iterator's) have turned -/
theorem Inv.turnedL {t' : Nat} {ch : List Addr} (I : Inv X pins σ H s) (hf : ∀ b ∈ ch, FpOk X pins H b) (k : ∀ b o, b ∉ ch → s.heap.get? b = some o → h'.get? b = some o) : Inv X pins σ H { s with heap := h', toks := t' } := by
  have nit : ∀ b u, H b = some u → b ∉ ch := fun b u e z => by rw [(hf b z).1] at e; cases e
  refine I.step (g' := s.gens) (d' := s.drawn) (ch := ch) (fun b hb => ?_) (fun b o _ _ hc e _ => k b o hc e) (fun b o _ _ hc e _ => ⟨o.slots, k b o hc e⟩) (fun _ _ _ _ n => n)
    (fun b o hc e => ⟨o, k b o hc e⟩) (fun _ _ e => e) (fun _ _ _ e => e) (fun b ps e => ⟨#[], by rw [e]; simp⟩) (fun m hm => ?_) (fun b u e => ?_) I.bare
  · obtain ⟨_, f1, _, f3, f4, f5⟩ := hf b hb
    exact ⟨f3, f1, f4, f5⟩
  · obtain ⟨o, es, ep, ho, r⟩ := hm
    exact ⟨o, es, ep, k _ o (fun z => (hf _ z).2.1 rfl) ho, r⟩
  · refine (I.hok b u e).stay (fun c v hc q => k c v ?_ q) (fun _ q => q) fun _ _ q => q
    rcases hc with z | z
    · rw [z]; exact nit b u e
    · exact nit c _ z
end
/-! ### for .., .. in zip(a, b) -/
end L2

set_option maxRecDepth 100000
namespace L2
open PySem PySem.Spec PyProof.Rows
section
variable {prog : Program} {w : World} {A : Around} {E : Value → Shared → Prop}
/-! ### a, b, c = a list -/
theorem draw_lst {it l : Addr} {its : Array Value} (ne : l ≠ it) : ∀ (n i : Nat) (s : Shared) (Q : List Value → Shared → Prop), i + n ≤ its.size → s.heap.IsListIter it l i → s.heap.IsList l its →
    (∀ h', h'.IsListIter it l (i + n) → h'.IsList l its → (∀ b o, b ≠ it → s.heap.get? b = some o → h'.get? b = some o) → Q ((its.toList.drop i).take n) { s with heap := h' }) → wpAny (model prog w) A (draw (.ref it) n) Q E s
  | 0, i, s, Q, _, st, hl, fin => wpAny_pure (by simpa using fin s.heap st hl fun _ _ _ e => e)
  | n + 1, i, s, Q, le, st, hl, fin => by
    have lt : i < its.size := by omega
    show wpAny _ _ (pyNext (.ref it) >>= _) Q E s
    refine wpAny_bind (wpAny_pyNext_list_item st hl (x := its[i]) (Array.getElem?_eq_getElem lt) fun h1 st1 sb => ?_)
    have hl1 : h1.IsList l its := hl.at fun o e => (sb.2 l ne).trans e
    refine wpAny_bind (wpAny_holding (draw_lst ne n (i + 1) _ _ (by omega) st1 hl1 fun h2 st2 hl2 k2 => wpAny_pure ?_))
    have e1 : its.toList.drop i = its[i] :: its.toList.drop (i + 1) := by simp [List.drop_eq_getElem_cons, lt]
    have q := fin h2 (by rw [show i + (n + 1) = i + 1 + n by omega]; exact st2) hl2 fun b o hb e => k2 b o hb ((sb.2 b hb).trans e)
    rw [e1, List.take_succ_cons] at q
    exact q
theorem unpack_lst {l : Addr} {its : Array Value} {s : Shared} {targets : List (Bool × (Value → Sem Unit))} {Q : Unit → Shared → Prop} (calm : A.handled = none) (hl : s.heap.IsList l its) (hn : targets.length = its.size) (hs : targets.findIdx? (·.1) = none)
    (fin : ∀ h', (∀ b o, s.heap.get? b = some o → h'.get? b = some o) → wpAny (model prog w) A (assignInOrder (targets.map (·.2)) its.toList) Q E { s with heap := h' }) : wpAny (model prog w) A (unpack (.ref l) targets) Q E s := by
  have ne : l ≠ s.heap.objs.size := by obtain ⟨o, ho, _⟩ := hl; exact Nat.ne_of_lt (Heap.lt_size ho)
  unfold unpack
  rw [hn, hs]
  refine wpAny_bind (wpAny_holding ?_)
  unfold unpackItems
  refine wpAny_bind ?_
  unfold notIterableAtAll
  refine wpAny_bind (wpAny_specialOf hl.typeIs slot_list_iter.lookup (wpAny_pure ?_))
  rw [if_neg (by decide)]
  refine wpAny_bind (wpAny_holding (wpAny_pyIter_list hl ?_))
  refine wpAny_bind (wpAny_holding (draw_lst ne its.size 0 _ _ (by omega) ⟨_, Heap.get?_push_size _ rfl, rfl, rfl⟩ (hl.push _) fun h1 st1 hl1 k1 => ?_))
  have all : (its.toList.drop 0).take its.size = its.toList := by simp [List.take_of_length_le]
  rw [all, if_neg (by simp)]
  refine wpAny_bind (wpAny_holding (wpAny_pyNext_list_end calm st1 hl1 (by simp) fun h2 k2 => ?_))
  rw [if_neg (by simp)]
  refine wpAny_pure (fin h2 fun b o e => ?_)
  have nb : b ≠ s.heap.objs.size := Nat.ne_of_lt (Heap.lt_size e)
  exact k2 b o nb (k1 b o nb (Heap.get?_push_of_some _ e))
end
section
variable {X : Cx} {pos : Pos}
noncomputable def gLst (K : PySem.W.Frag) (n : Nat) (t : TGs) : TG := fun v σ H Q => ∃ a xs, v = .ref a ∧ SqL K H a xs ∧ xs.length = n ∧ t xs σ H Q
theorem pg_lst {es : List Expr} {k : Nat} {t : TGs} {n : Nat} (hc : X.calm = true) (h : PGs X es t) (hn : (assignEach es X.env).length = n := by rfl) (hst : (assignEach es X.env).findIdx? (·.1) = none := by rfl) : PG X (.Tuple es k pos) (gLst X.K n t) := by
  intro pins s σ H v u Q I r hw
  obtain ⟨a, xs, rfl, hq, hl, hw⟩ := hw
  cases r
  obtain ⟨its, rv, pl, hz⟩ := I.list hq
  rw [assign_Tuple]
  refine wpAny_bind (wpAny_standAt (unpack_lst (I.ok.hd hc) pl.isList (by simp [hn, ← hl, rv.length]) hst fun h' k => ?_))
  exact h pins _ σ H xs _ Q (I.kept (t' := s.toks) k) (by simpa using rv) hw
theorem qg_lst {es : List Expr} {k : Nat} {t : TGs} {n : Nat} (hc : X.calm = true) (h : QGs X es t) (hn : (assignEach es X.env).length = n := by rfl) (hst : (assignEach es X.env).findIdx? (·.1) = none := by rfl) : QG X (.Tuple es k pos) (gLst X.K n t) := ⟨pg_lst hc h.h hn hst⟩
theorem qc_max2 (hc : X.calm = true) : QCall X (.builtin "max") (fun xs H Q => ∃ i j, xs = [.int i, .int j] ∧ Q (.int (if j > i then j else i)) H) := ⟨call_max2 hc⟩
end
end L2
namespace RB
open PySem L2 PySem.Spec PyProof.Rows
theorem eqv_names : ∀ xs ys : List Str, PyData.eqvAll (xs.map PyData.str) (ys.map PyData.str) = true → xs = ys
  | [], [], _ => rfl
  | [], _ :: _, h => by simp [PyData.eqvAll] at h
  | _ :: _, [], h => by simp [PyData.eqvAll] at h
  | x :: xs, y :: ys, h => by
    simp only [List.map_cons, PyData.eqvAll, PyData.eqv, Bool.and_eq_true, beq_iff_eq] at h
    rw [h.1, eqv_names xs ys h.2]
theorem word_inj {a b : Op} (h : a.word = b.word) : a = b := by
  revert h
  cases a <;> cases b <;> decide +kernel
theorem word_pick (op : Op) : op.word ≠ "pick" ∧ op.word ≠ "choose" ∧ op.word ≠ "number" ∧ op.word ≠ "read" := by cases op <;> decide +kernel
theorem eqv_hd {x y : Str} {xs ys : List PyData} (h : PyData.eqv (.tuple (.str x :: xs)) (.tuple (.str y :: ys)) = true) : x = y ∧ PyData.eqvAll xs ys = true := by
  simp only [PyData.eqv, PyData.eqvAll, Bool.and_eq_true, beq_iff_eq] at h
  exact h
theorem eqv_cn {x y : PyData} {xs ys : List PyData} (h : PyData.eqvAll (x :: xs) (y :: ys) = true) : PyData.eqv x y = true ∧ PyData.eqvAll xs ys = true := by
  rw [PyData.eqvAll, Bool.and_eq_true] at h
  exact h
theorem eqv_in {n m : Int} (h : PyData.eqv (.int n) (.int m) = true) : n = m := by simpa [PyData.eqv] using h
theorem eqv_st {n m : Str} (h : PyData.eqv (.str n) (.str m) = true) : n = m := by simpa [PyData.eqv] using h
theorem eqv_tp {n m : List PyData} (h : PyData.eqv (.tuple n) (.tuple m) = true) : PyData.eqvAll n m = true := by simpa [PyData.eqv] using h
noncomputable def R.wd : R → Str
  | .num _ => "number" | .rd _ => "read" | .bin op _ _ => op.word | .pick _ _ _ => "pick" | .cho _ _ => "choose"
noncomputable def R.tlD : R → List PyData
  | .num n => [.int n] | .rd x => [.str x] | .bin _ a b => [a.dat, b.dat] | .pick a b c => [a.dat, b.dat, c.dat] | .cho a ns => [a.dat, .tuple (ns.map PyData.str)]
theorem R.dat_wd (r : R) : r.dat = .tuple (.str r.wd :: r.tlD) := by cases r <;> rfl
theorem w_ne : ("number" : Str) ≠ "read" ∧ ("number" : Str) ≠ "pick" ∧ ("number" : Str) ≠ "choose" ∧ ("read" : Str) ≠ "pick" ∧ ("read" : Str) ≠ "choose" ∧ ("pick" : Str) ≠ "choose" := by decide +kernel
theorem R.eqv_eq (r : R) : ∀ s : R, PyData.eqv r.dat s.dat = true → r = s := by
  induction r with
  | num n =>
    intro s h
    rw [R.dat_wd, R.dat_wd s] at h
    obtain ⟨h1, h2⟩ := eqv_hd h
    cases s with
    | num m => rw [eqv_in (eqv_cn h2).1]
    | rd y => exact absurd h1 w_ne.1
    | bin p c d => exact absurd h1.symm (word_pick p).2.2.1
    | pick d e f => exact absurd h1 w_ne.2.1
    | cho b ms => exact absurd h1 w_ne.2.2.1
  | rd x =>
    intro s h
    rw [R.dat_wd, R.dat_wd s] at h
    obtain ⟨h1, h2⟩ := eqv_hd h
    cases s with
    | num m => exact absurd h1.symm w_ne.1
    | rd y => rw [eqv_st (eqv_cn h2).1]
    | bin p c d => exact absurd h1.symm (word_pick p).2.2.2
    | pick d e f => exact absurd h1 w_ne.2.2.2.1
    | cho b ms => exact absurd h1 w_ne.2.2.2.2.1
  | bin o a b i1 i2 =>
    intro s h
    rw [R.dat_wd, R.dat_wd s] at h
    obtain ⟨h1, h2⟩ := eqv_hd h
    cases s with
    | num m => exact absurd h1 (word_pick o).2.2.1
    | rd y => exact absurd h1 (word_pick o).2.2.2
    | bin p c d => rw [word_inj h1, i1 c (eqv_cn h2).1, i2 d (eqv_cn (eqv_cn h2).2).1]
    | pick d e f => exact absurd h1 (word_pick o).1
    | cho b ms => exact absurd h1 (word_pick o).2.1
  | pick a b c i1 i2 i3 =>
    intro s h
    rw [R.dat_wd, R.dat_wd s] at h
    obtain ⟨h1, h2⟩ := eqv_hd h
    cases s with
    | num m => exact absurd h1.symm w_ne.2.1
    | rd y => exact absurd h1.symm w_ne.2.2.2.1
    | bin p c d => exact absurd h1.symm (word_pick p).1
    | pick d e f => rw [i1 d (eqv_cn h2).1, i2 e (eqv_cn (eqv_cn h2).2).1, i3 f (eqv_cn (eqv_cn (eqv_cn h2).2).2).1]
    | cho b ms => exact absurd h1 w_ne.2.2.2.2.2
  | cho a ns i1 =>
    intro s h
    rw [R.dat_wd, R.dat_wd s] at h
    obtain ⟨h1, h2⟩ := eqv_hd h
    cases s with
    | num m => exact absurd h1.symm w_ne.2.2.1
    | rd y => exact absurd h1.symm w_ne.2.2.2.2.1
    | bin p c d => exact absurd h1.symm (word_pick p).2.1
    | pick d e f => exact absurd h1.symm w_ne.2.2.2.2.2
    | cho b ms => rw [i1 b (eqv_cn h2).1, eqv_names ns ms (eqv_tp (eqv_cn (eqv_cn h2).2).1)]
end RB

set_option maxRecDepth 100000
namespace L2
open PySem PySem.Spec PyProof.Rows
end L2
namespace RB
open PySem L2 PySem.Spec PyProof.Rows
end RB

set_option maxRecDepth 100000
namespace RB
open PySem L2 PySem.Spec PyProof.Rows
end RB

set_option maxRecDepth 100000
namespace RB
open PySem L2 PySem.Spec PyProof.Rows
end RB

set_option maxRecDepth 100000
namespace RB
open PySem L2 PySem.Spec PyProof.Rows
/-! ### reads: rows of (name, number) -/
noncomputable abbrev Rdp := Str × Int
noncomputable def rdV (p : Rdp) : List V := [.str p.1, .int p.2]
inductive IsRds (H : Hp) : List Addr → List Rdp → Prop where
  | nil : IsRds H [] []
  | cons {a : Addr} {p : Rdp} {as : List Addr} {ps : List Rdp} (h : H a = some (.tup (rdV p))) (t : IsRds H as ps) : IsRds H (a :: as) (p :: ps)
theorem IsRds.tups {H H' : Hp} (t : Tups H H') {as : List Addr} {ps : List Rdp} (h : IsRds H as ps) : IsRds H' as ps := by
  induction h with
  | nil => exact .nil
  | cons h _ ih => exact .cons (t _ _ h) ih
theorem IsRds.same {H H' : Hp} (s : Same H H') {as : List Addr} {ps : List Rdp} (h : IsRds H as ps) : IsRds H' as ps := h.tups (Same.tups s)
theorem IsRds.length {H : Hp} {as : List Addr} {ps : List Rdp} (h : IsRds H as ps) : as.length = ps.length := by
  induction h with
  | nil => rfl
  | cons _ _ ih => simp [ih]
theorem IsRds.snoc {H : Hp} {a : Addr} {p : Rdp} (h : H a = some (.tup (rdV p))) : ∀ {as : List Addr} {ps : List Rdp}, IsRds H as ps → IsRds H (as ++ [a]) (ps ++ [p])
  | _, _, .nil => .cons h .nil
  | _, _, .cons h' t => .cons h' (t.snoc h)
theorem IsRds.get {H : Hp} {as : List Addr} {ps : List Rdp} (h : IsRds H as ps) : ∀ (i : Nat) (a : Addr), as[i]? = some a → ∃ p, ps[i]? = some p ∧ H a = some (.tup (rdV p)) := by
  induction h with
  | nil => intro i a e; simp at e
  | @cons b p as ps h t ih =>
    intro i a e
    cases i with
    | zero => have : b = a := by simpa using e
              subst this; exact ⟨_, rfl, h⟩
    | succ i => exact ih i a (by simpa using e)
/-- the k-th of a row of refs -/
theorem ref_at {as : List Addr} {i : Nat} {x : V} (h : (as.map V.ref)[i]? = some x) : ∃ a, as[i]? = some a ∧ x = .ref a := by
  rw [List.getElem?_map] at h
  cases e : as[i]? with
  | none => rw [e] at h; cases h
  | some a => rw [e] at h; cases h; exact ⟨a, rfl, rfl⟩
end RB
namespace RB
open PySem L2 PySem.Spec PyProof.Rows
end RB

set_option maxRecDepth 100000
namespace L2
open PySem PySem.Spec PyProof.Rows
theorem mul_rep0 {t : Str} {n : Int} (h : 0 ≤ n) : Txt.mul t n = repS t n.toNat := by
  by_cases h1 : 1 ≤ n
  · exact mul_rep h1
  · have e : n = 0 := by omega
    subst e
    unfold Txt.mul
    rw [if_pos (by omega)]
    rfl
noncomputable def rMul0 : R2 := fun x y H Q => ∃ t n, x = .str t ∧ y = .int n ∧ 0 ≤ n ∧ n ≤ 1000 ∧ t.length ≤ 1000 ∧ Q (.str (repS t n.toNat)) H
theorem op_mul0 {X : Cx} : OpR X (binaryOp .Mult) rMul0 := by
  intro pins s σ H x y v u Q I rx ry h
  obtain ⟨t, n, rfl, rfl, h1, h2, h3, q⟩ := h
  obtain ⟨k, rfl⟩ := rx
  obtain ⟨k', rfl⟩ := ry
  have e63 : (2 : Int) ^ 63 = 9223372036854775808 := by decide
  refine SB.mul ⟨?_, fun hn _ => ?_, fun hn _ => ?_⟩ fun t' kk => ⟨.str _, H, I.tok kk, ⟨t', rfl⟩, by rw [mul_rep0 h1]; exact q⟩
  · rw [e63]
    simp
    omega
  · intro hgt
    have hle : (1000 : Int) ≤ ((2 : Int) ^ 63 - 1) / n := by
      rw [e63]
      exact Int.le_ediv_of_mul_le (by omega) (by omega)
    omega
  · have : t.length * n.toNat ≤ 1000 * 1000 := Nat.mul_le_mul h3 (by omega)
    exact decide_eq_false (by rw [sizeLine_eq]; omega)
theorem qg_tupK {X : Cx} {es : List Expr} {pos : Pos} {K : PySem.W.Frag} {k n : Nat} {t : TGs} (eK : X.K = K) (hc : X.calm = true) (h : QGs X es t) (hn : (assignEach es X.env).length = n := by rfl) (hst : (assignEach es X.env).findIdx? (·.1) = none := by rfl) : QG X (.Tuple es k pos) (gTup K n t) := eK ▸ qg_tup hc h hn hst
theorem qop_mul0 {X : Cx} : QOp X (binaryOp .Mult) rMul0 := ⟨op_mul0⟩
end L2
namespace RB
open PySem L2 PySem.Spec PyProof.Rows
theorem SqL.same {K : PySem.W.Frag} {H H' : Hp} {a : Addr} {xs : List V} (s : Same H H') (h : SqL K H a xs) : SqL K H' a xs := by
  rcases h with (e | ⟨o, e⟩) | h
  · exact .inl (.inl (s _ _ e))
  · exact .inl (.inr ⟨o, s _ _ e⟩)
  · exact .inr h
theorem but_same {S : List Addr} {H0 H H' : Hp} (s : Same H0 H) (hS : ∀ p ∈ S, H0 p = none) (b : But S H H') : Same H0 H' := fun a o e => b a o (fun z => by rw [hS a z] at e; cases e) (s a o e)
noncomputable def spCell (K : PySem.W.Frag) : Sp := fun vs H Q _ => ∃ (a : Addr) (ns : List Int) (k : Int), vs = [.ref a, .int k] ∧ SqL K H a (ns.map V.int) ∧ 0 ≤ k ∧ ∀ n, Q (.int n) H
noncomputable def poolD (rest : Int) (mixed : Bool) (count : Int) : List (Key × V) := [(.inr "rest", .int rest), (.inr "mixed", .bl mixed), (.inr "count", .int count)]
noncomputable def PoolAt (H : Hp) (p : Addr) (c : Nat) : Prop := ∃ (rest : Int) (mixed : Bool) (count : Int), H p = some (.dK (poolD rest mixed count)) ∧ 0 ≤ count ∧ count ≤ (c : Int)
theorem PoolAt.keep {S : List Addr} {H H' : Hp} {p : Addr} {c : Nat} (h : PoolAt H p c) (b : But S H H') (hp : p ∉ S) : PoolAt H' p c := by
  obtain ⟨r, m, k, e, h⟩ := h
  exact ⟨r, m, k, b _ _ hp e, h⟩
theorem PoolAt.same {H H' : Hp} {p : Addr} {c : Nat} (h : PoolAt H p c) (b : Same H H') : PoolAt H' p c := h.keep (S := []) (But.of_same b) (by simp)
theorem PoolAt.tups {H H' : Hp} {p : Addr} {c : Nat} (h : PoolAt H p c) (b : But [p] H H') : Tups H H' := fun q xs e => b q _ (fun z => by
  obtain ⟨r, m, k, e', _⟩ := h
  have : q = p := by simpa using z
  rw [this, e'] at e; cases e) e
noncomputable def spPool (K : PySem.W.Frag) : Sp := fun vs H Q _ => ∃ (a : Addr) (ns : List Int) (k : Int), vs = [.ref a, .int k] ∧ SqL K H a (ns.map V.int) ∧ 0 ≤ k ∧ k ≤ 100 ∧ ∀ p H', Same H H' → H p = none → PoolAt H' p 503 → Q (.ref p) H'
noncomputable def spTake : Sp := fun vs H Q _ => ∃ (p : Addr) (c : Nat) (many : Int), vs = [.ref p, .int many] ∧ PoolAt H p c ∧ c ≤ 100000 ∧ 0 < many ∧ many.natAbs.log2 < 9000 ∧ ∀ n H', 0 ≤ n → n < many → But [p] H H' → PoolAt H' p (c + 1) → Q (.int n) H'
/-! ### the law's names -/
noncomputable def ltr (i : Nat) : Str := ⟨#[i + 97]⟩
noncomputable def nameK (k : Nat) : Str := ltr (k % 26) ++ repS (ltr (k * 7 % 26)) (k * 5 % 8)
noncomputable def spLaName : Sp := fun vs H Q _ => ∃ k : Nat, vs = [.int (k : Int)] ∧ k ≤ 1000 ∧ Q (.str (nameK k)) H
theorem ltr_at {n : Int} {i : Nat} (h : n = (i : Int)) (hi : i < 26) : atI (Str.ofString "abcdefghijklmnopqrstuvwxyz").cps.toList n = some (i + 97) := by
  subst h
  exact atI_nat (by rw [letters_cps, List.getElem?_map, List.getElem?_range hi]; rfl)
noncomputable def names26 : List Str := (List.range 26).map nameK
theorem names26_good : ∀ x ∈ names26 ++ [("qz" : Str), "xz", "jz"], GName x := by decide +kernel
theorem pool_rest {H : Hp} {p : Addr} {a c : Int} {b : Bool} (e : H p = some (.dK (poolD a b c))) : DGet H p (.str "rest") (some (.int a)) := DGet.k (k := .inr "rest") e
theorem pool_mixed {H : Hp} {p : Addr} {a c : Int} {b : Bool} (e : H p = some (.dK (poolD a b c))) : DGet H p (.str "mixed") (some (.bl b)) := DGet.k (k := .inr "mixed") e
theorem pool_count {H : Hp} {p : Addr} {a c : Int} {b : Bool} (e : H p = some (.dK (poolD a b c))) : DGet H p (.str "count") (some (.int c)) := DGet.k (k := .inr "count") e
theorem pool_put_rest {H : Hp} {p : Addr} {a c : Int} {b : Bool} (e : H p = some (.dK (poolD a b c))) (x : Int) : DPut H p (.str "rest") (.int x) (upd H p (.dK (poolD x b c))) := DPut.k (k := .inr "rest") e (small1000 (by show 3 ≤ 1000; decide))
theorem pool_put_count {H : Hp} {p : Addr} {a c : Int} {b : Bool} (e : H p = some (.dK (poolD a b c))) (x : Int) : DPut H p (.str "count") (.int x) (upd H p (.dK (poolD a b x))) := DPut.k (k := .inr "count") e (small1000 (by show 3 ≤ 1000; decide))
end RB

set_option maxRecDepth 100000
namespace RB
open PySem L2 PySem.Spec PyProof.Rows
/-! ### worths known so far, and what a recipe comes to by them -/
noncomputable abbrev Kn := Str → Option Int
noncomputable def Kn.put (kn : Kn) (x : Str) (v : Int) : Kn := fun y => if y = x then some v else kn y
noncomputable def Kn.puts : Kn → List Rdp → Kn
  | kn, [] => kn
  | kn, p :: ps => (kn.put p.1 p.2).puts ps
noncomputable def Kn.Le (kn kn' : Kn) : Prop := ∀ x v, kn x = some v → kn' x = some v
theorem Kn.Le.refl (kn : Kn) : Kn.Le kn kn := fun _ _ h => h
theorem Kn.Le.trans {a b c : Kn} (h : Kn.Le a b) (g : Kn.Le b c) : Kn.Le a c := fun x v z => g x v (h x v z)
theorem Kn.le_put {kn : Kn} {x : Str} {v : Int} (h : kn x = none) : Kn.Le kn (kn.put x v) := fun y u z => by
  unfold Kn.put
  rw [if_neg (fun e => by rw [e, h] at z; cases z)]; exact z
noncomputable def Op.ap : Op → Int → Int → Int
  | .plus, u, v => u + v
  | .minus, u, v => u - v
  | .times, u, v => u * v
  | .most, u, v => if v > u then v else u
noncomputable def pickN (ns : List Str) (u : Int) : Option Str := ns[(u % (ns.length : Int)).toNat]?
noncomputable def look (kn : Kn) (x : Str) : Str ⊕ Int := match kn x with
  | some v => .inr v
  | none => .inl x
/-- the worth, or the first name that is looked for and not known -/
noncomputable def ev (kn : Kn) : R → Str ⊕ Int
  | .num n => .inr n
  | .rd x => look kn x
  | .bin op a b => match ev kn a with
    | .inl x => .inl x
    | .inr u => match ev kn b with
      | .inl x => .inl x
      | .inr v => .inr (op.ap u v)
  | .pick a b c => match ev kn a with
    | .inl x => .inl x
    | .inr u => if u > 0 then ev kn b else ev kn c
  | .cho a ns => match ev kn a with
    | .inl x => .inl x
    | .inr u => match pickN ns u with
      | none => .inr 0
      | some x => look kn x
theorem look_le {kn kn' : Kn} (h : Kn.Le kn kn') {x : Str} {v : Int} (e : look kn x = .inr v) : look kn' x = .inr v := by
  unfold look at e ⊢
  cases z : kn x with
  | none => rw [z] at e; cases e
  | some u => rw [z] at e; rw [h x u z]; exact e
theorem look_none {kn : Kn} {x y : Str} (e : look kn x = .inl y) : y = x ∧ kn x = none := by
  unfold look at e
  cases z : kn x with
  | none => rw [z] at e; cases e; exact ⟨rfl, rfl⟩
  | some u => rw [z] at e; cases e
theorem ev_none {kn : Kn} : ∀ {r : R} {x : Str}, ev kn r = .inl x → kn x = none
  | .num n, x, h => by cases h
  | .rd y, x, h => by obtain ⟨rfl, h⟩ := look_none h; exact h
  | .bin op a b, x, h => by
    simp only [ev] at h
    cases ea : ev kn a with
    | inl y => rw [ea] at h; cases h; exact ev_none ea
    | inr u =>
      rw [ea] at h
      cases eb : ev kn b with
      | inl y => rw [eb] at h; cases h; exact ev_none eb
      | inr v => rw [eb] at h; cases h
  | .pick a b c, x, h => by
    simp only [ev] at h
    cases ea : ev kn a with
    | inl y => rw [ea] at h; cases h; exact ev_none ea
    | inr u =>
      rw [ea] at h
      simp only at h
      split at h
      · exact ev_none h
      · exact ev_none h
  | .cho a ns, x, h => by
    simp only [ev] at h
    cases ea : ev kn a with
    | inl y => rw [ea] at h; cases h; exact ev_none ea
    | inr u =>
      rw [ea] at h
      simp only at h
      cases ep : pickN ns u with
      | none => rw [ep] at h; cases h
      | some y => rw [ep] at h; obtain ⟨rfl, h⟩ := look_none h; exact h
theorem ev_le {kn kn' : Kn} (hk : Kn.Le kn kn') : ∀ {r : R} {v : Int}, ev kn r = .inr v → ev kn' r = .inr v
  | .num n, v, h => h
  | .rd y, v, h => look_le hk h
  | .bin op a b, v, h => by
    simp only [ev] at h ⊢
    cases ea : ev kn a with
    | inl y => rw [ea] at h; cases h
    | inr u =>
      rw [ea] at h; rw [ev_le hk ea]
      cases eb : ev kn b with
      | inl y => rw [eb] at h; cases h
      | inr w => rw [eb] at h; rw [ev_le hk eb]; exact h
  | .pick a b c, v, h => by
    simp only [ev] at h ⊢
    cases ea : ev kn a with
    | inl y => rw [ea] at h; cases h
    | inr u =>
      rw [ea] at h; rw [ev_le hk ea]
      simp only at h ⊢
      split at h
      · rw [if_pos (by assumption)]; exact ev_le hk h
      · rw [if_neg (by assumption)]; exact ev_le hk h
  | .cho a ns, v, h => by
    simp only [ev] at h ⊢
    cases ea : ev kn a with
    | inl y => rw [ea] at h; cases h
    | inr u =>
      rw [ea] at h; rw [ev_le hk ea]
      simp only at h ⊢
      cases ep : pickN ns u with
      | none => rw [ep] at h; exact h
      | some y => rw [ep] at h; exact look_le hk h
/-! ### the machine -/
/-! ### recipes whose products are no wall -/
theorem pick_some {ns : List Str} (h : 1 ≤ ns.length) (u : Int) : ∃ x, pickN ns u = some x := by
  unfold pickN
  have h1 : (u % (ns.length : Int)).toNat < ns.length := by
    have := Int.emod_nonneg u (show (ns.length : Int) ≠ 0 by omega)
    have := Int.emod_lt_of_pos u (show (0 : Int) < ns.length by omega)
    omega
  exact ⟨_, List.getElem?_eq_getElem h1⟩
end RB
namespace RB
open PySem L2 PySem.Spec PyProof.Rows
/-! ### on the way -/
/-! ### what a recipe does behind reads -/
noncomputable def kn0 : Kn := fun _ => none
end RB

set_option maxRecDepth 100000
namespace L2
open PySem PySem.Spec PyProof.Rows
section
variable {X : Cx} {i o : Expr} {ty td : TE} {pos : Pos}
theorem qt_din (hu : X.A.units + 1 < cLine) (hi : QE X i ty) (ho : QE X o td) (h1 : behindInMarks .In o = false := by rfl) : QT X (.Compare i [.In] [o] pos) (tB (tDIn ty td)) := ⟨pt_cmp (pc_din hu hi.h ho.h) h1⟩
theorem qt_dnotin (hu : X.A.units + 1 < cLine) (hi : QE X i ty) (ho : QE X o td) (h1 : behindInMarks .NotIn o = false := by rfl) : QT X (.Compare i [.NotIn] [o] pos) (tB (tDNotIn ty td)) := ⟨pt_cmp (pc_dnotin hu hi.h ho.h) h1⟩
end
end L2
namespace RB
open PySem L2 PySem.Spec PyProof.Rows
/-! ### steps on the heap -/
/-! ### how much is left -/
/-! ### a reckoning -/
end RB
namespace RB
open PySem L2 PySem.Spec PyProof.Rows
theorem upd_none {H : Hp} {p q : Addr} {o : HO} (h : upd H p o q = none) : q ≠ p ∧ H q = none := by
  by_cases e : q = p
  · subst e; rw [upd_same] at h; cases h
  · rw [upd_ne e] at h; exact ⟨e, h⟩
end RB
namespace RB
open PySem L2 PySem.Spec PyProof.Rows
end RB
namespace RB
open PySem L2 PySem.Spec PyProof.Rows
theorem same_none {H H' : Hp} {p : Addr} (s : Same H H') (h : H' p = none) : H p = none := by
  cases z : H p with
  | none => rfl
  | some o => rw [s _ _ z] at h; cases h
end RB

set_option maxRecDepth 100000
namespace L2
open PySem PySem.Spec PyProof.Rows
theorem key_rel {k : Key} {v : Value} (h : keyIs k v = true) : RelV (kV k) v := by
  rcases keyIs_shape h with ⟨i, t, rfl, rfl⟩ | ⟨x, t, rfl, rfl⟩
  · exact ⟨t, rfl⟩
  · exact ⟨t, rfl⟩
theorem vals_of_at : ∀ {ys : List V} {its : List Value}, its.length = ys.length → (∀ (i : Nat) (v : Value), its[i]? = some v → ∃ y, ys[i]? = some y ∧ RelV y v) → Vals ys its
  | [], [], _, _ => .nil
  | y :: ys, v :: its, hl, h => by
    obtain ⟨y', e, r⟩ := h 0 v rfl
    cases e
    exact .cons r (vals_of_at (by simpa using hl) fun i u hu => h (i + 1) u (by simpa using hu))
  | [], _ :: _, hl, _ => by simp at hl
  | _ :: _, [], hl, _ => by simp at hl
theorem kv_at {κ : Type} : ∀ {kvs : List (κ × V)} {vs : List (κ × Value)}, KV kvs vs → kvs.length = vs.length ∧ ∀ (i : Nat) (k : κ) (x : Value), vs[i]? = some (k, x) → ∃ y, kvs[i]? = some (k, y)
  | _, _, .nil => ⟨rfl, fun i k x h => by simp at h⟩
  | _, _, .cons (a := p) (b := q) h t => by
    obtain ⟨h1, h2⟩ := kv_at t
    refine ⟨by simp [h1], fun i k x e => ?_⟩
    cases i with
    | zero => cases e; exact ⟨p.2, by rw [List.getElem?_cons_zero]; cases p; simp only at h ⊢; rw [h.1]⟩
    | succ i => exact h2 i k x (by simpa using e)
section
variable {X : Cx}
theorem call_listD (hc : X.calm = true) : CallR X (.type "list") (fun xs H Q => ∃ a kvs, xs = [.ref a] ∧ H a = some (.dK kvs) ∧ ∀ l, H l = none → Q (.ref l) (upd H l (.lst (kvs.map fun kv => kV kv.1)))) := by
  intro pins s σ H xs us Q I r h
  obtain ⟨a, kvs, rfl, ha, q⟩ := h
  obtain ⟨u, rfl, rx⟩ := vals1 r
  cases rx
  obtain ⟨hz, lo, vs, hkv, hd⟩ := (show ObjOk X.prog X.w H s.heap a (.dK kvs) from I.hok a _ ha)
  obtain ⟨ep, hat⟩ := hd.dictAt
  obtain ⟨hl, hk⟩ := kv_at hkv
  refine PySem.W.kdl_call (PySem.W.kdl_dict lo) (I.ok.hd hc) hat (by rw [← hl]; exact hz) fun h' tk acc c kp e hacc => ?_
  have hv : Vals (kvs.map fun kv => kV kv.1) acc.toList := vals_of_at (by rw [List.length_map, Array.length_toList, hacc.1, hl]) fun i v hv => by
    obtain ⟨k, x, e1, e2⟩ := hacc.2 i v (by rw [← Array.getElem?_toList]; exact hv)
    obtain ⟨y, hy⟩ := hk i k x e1
    exact ⟨kV k, by rw [List.getElem?_map, hy]; rfl, key_rel e2⟩
  exact ⟨.ref s.heap.objs.size, _, I.laid (t' := tk) kp (Nat.le_refl _) (show ObjOk X.prog X.w _ h' _ (.lst (kvs.map fun kv => kV kv.1)) from ⟨by rw [List.length_map]; exact hz, acc.toList, c, hv, by simpa using e⟩), rfl, q _ (I.hok.fresh (Nat.le_refl _))⟩
theorem qc_listD (hc : X.calm = true) : QCall X (.type "list") (fun xs H Q => ∃ a kvs, xs = [.ref a] ∧ H a = some (.dK kvs) ∧ ∀ l, H l = none → Q (.ref l) (upd H l (.lst (kvs.map fun kv => kV kv.1)))) := ⟨call_listD hc⟩
end
end L2

set_option maxRecDepth 100000
namespace RB
open PySem L2 PySem.Spec PyProof.Rows
/-! ### the pools of the laws from k50 on -/
/-- all names within -/
noncomputable def R.In (ns : List Str) : R → Prop
  | .num _ => True
  | .rd x => x ∈ ns
  | .bin _ a b => a.In ns ∧ b.In ns
  | .pick a b c => a.In ns ∧ b.In ns ∧ c.In ns
  | .cho a ms => a.In ns ∧ ∀ x ∈ ms, x ∈ ns
end RB
namespace RB
open PySem L2 PySem.Spec PyProof.Rows
theorem but_none {S : List Addr} {H H' : Hp} {q : Addr} (b : But S H H') (h : H' q = none) (hS : q ∉ S) : H q = none := by
  cases z : H q with
  | none => rfl
  | some o => rw [b _ _ hS z] at h; cases h
theorem shaped_nms {ns : List Str} (h : ∀ x ∈ ns, GName x) : SeqAt.shaped (.list (ns.map PyData.str)) = true := by
  have := depth_strs ns
  have h4 : (PyData.list (ns.map PyData.str)).depth ≤ 64 := by simp only [PyData.depth]; omega
  have h5 : (PyData.list (ns.map PyData.str)).canLay0 = true := by simp only [PyData.canLay0]; exact lay_names ns h
  show (_ && decide _) = true
  rw [h5, decide_eq_true h4]; rfl
theorem eqv_nms {ns : List Str} (h : 1 ≤ ns.length) : PyData.eqv (.list (ns.map PyData.str)) (.list []) = false := by
  cases ns with
  | nil => simp at h
  | cons n ns => simp [PyData.eqv, PyData.eqvAll]
end RB

set_option maxRecDepth 100000
namespace L2
open PySem PySem.Spec PyProof.Rows
/-! ### xs[::-1] -/
section
variable {X : Cx} {e st : Expr} {te ts : TE} {pos p2 : Pos}
end
end L2

set_option maxRecDepth 100000
namespace RB
open PySem L2 PySem.Spec PyProof.Rows
/-! ### the law's own way: reads are used up as they are looked for -/
/-- just these names are looked for, one after another -/
noncomputable def Chn (r : R) : Kn → List Rdp → Prop
  | _, [] => True
  | kn, p :: us => ev kn r = .inl p.1 ∧ Chn r (kn.put p.1 p.2) us
theorem Chn.le {r : R} : ∀ {us : List Rdp} {kn : Kn}, Chn r kn us → Kn.Le kn (kn.puts us)
  | [], kn, _ => Kn.Le.refl _
  | p :: us, kn, h => (Kn.le_put (ev_none h.1)).trans (Chn.le (us := us) h.2)
theorem Chn.up {a r : R} : ∀ {us : List Rdp} {kn : Kn}, (∀ kn' x, Kn.Le kn kn' → ev kn' a = .inl x → ev kn' r = .inl x) → Chn a kn us → Chn r kn us
  | [], _, _, _ => trivial
  | p :: us, kn, h, g => ⟨h kn p.1 (Kn.Le.refl _) g.1, Chn.up (us := us) (fun kn' x l e => h kn' x ((Kn.le_put (ev_none g.1)).trans l) e) g.2⟩
theorem Kn.puts_app (kn : Kn) (us vs : List Rdp) : kn.puts (us ++ vs) = (kn.puts us).puts vs := by
  induction us generalizing kn with
  | nil => rfl
  | cons u us ih => exact ih _
theorem Chn.app {r : R} : ∀ {us vs : List Rdp} {kn : Kn}, Chn r kn us → Chn r (kn.puts us) vs → Chn r kn (us ++ vs)
  | [], _, _, _, h => h
  | p :: us, vs, kn, g, h => ⟨g.1, Chn.app (us := us) g.2 h⟩
/-! ### how big a worth may be -/
end RB

set_option maxRecDepth 100000
namespace RB
open PySem L2 PySem.Spec PyProof.Rows
theorem putK_keys {κ : Type} [DecidableEq κ] (kvs : List (κ × V)) (k : κ) (v : V) : (putK kvs k v).map (·.1) = if (kvs.any fun kv => decide (kv.1 = k)) = true then kvs.map (·.1) else kvs.map (·.1) ++ [k] := by
  unfold putK
  split
  · rw [List.map_map]
    apply List.map_congr_left
    intro p _
    show (if p.1 = k then (p.1, v) else p).1 = p.1
    split <;> rfl
  · rw [List.map_append]; rfl
theorem keys_list {kvs : List (Key × V)} {ns : List Str} (h : kvs.map (·.1) = ns.map Sum.inr) : kvs.map (fun kv => kV kv.1) = ns.map V.str := by
  have : kvs.map (fun kv => kV kv.1) = (kvs.map (·.1)).map kV := by rw [List.map_map]; rfl
  rw [this, h, List.map_map]; rfl
end RB

set_option maxRecDepth 100000
namespace RB
open PySem L2 PySem.Spec PyProof.Rows
section
variable {H : Hp} {s l h : Addr} {du wr : V}
end
section
variable {H H' : Hp} {s l h : Addr} {kn : Kn} {ps : List Rdp}
end
end RB
namespace RB
open PySem L2 PySem.Spec PyProof.Rows
end RB
namespace RB
open PySem L2 PySem.Spec PyProof.Rows
end RB

set_option maxRecDepth 100000
namespace RB
open PySem L2 PySem.Spec PyProof.Rows
theorem ev_in {ns : List Str} : ∀ {r : R} {kn : Kn} {x : Str}, r.In ns → ev kn r = .inl x → x ∈ ns
  | .num n, kn, x, i, h => by cases h
  | .rd y, kn, x, i, h => by obtain ⟨rfl, _⟩ := look_none h; exact i
  | .bin op a b, kn, x, i, h => by
    simp only [ev] at h
    cases ea : ev kn a with
    | inl y => rw [ea] at h; cases h; exact ev_in i.1 ea
    | inr u =>
      rw [ea] at h
      cases eb : ev kn b with
      | inl y => rw [eb] at h; cases h; exact ev_in i.2 eb
      | inr v => rw [eb] at h; cases h
  | .pick a b c, kn, x, i, h => by
    simp only [ev] at h
    cases ea : ev kn a with
    | inl y => rw [ea] at h; cases h; exact ev_in i.1 ea
    | inr u =>
      rw [ea] at h
      simp only at h
      split at h
      · exact ev_in i.2.1 h
      · exact ev_in i.2.2 h
  | .cho a ms, kn, x, i, h => by
    simp only [ev] at h
    cases ea : ev kn a with
    | inl y => rw [ea] at h; cases h; exact ev_in i.1 ea
    | inr u =>
      rw [ea] at h
      simp only at h
      cases ep : pickN ms u with
      | none => rw [ep] at h; cases h
      | some y =>
        rw [ep] at h
        obtain ⟨rfl, _⟩ := look_none h
        exact i.2 _ (List.mem_of_getElem? ep)
end RB

set_option maxRecDepth 100000
namespace L2
open PySem PySem.Spec PyProof.Rows
/-! ### for k in d: the dict is held fast from then on -/
noncomputable def Itd (a : Addr) (o : Obj) (kvs : List (Key × V)) : It where
  go := fun i H => i < kvs.length ∧ H a = some (.frz o (.dK kvs))
  yld := fun i H x H' => H' = H ∧ ∃ k v, kvs[i]? = some (k, v) ∧ x = kV k
  stop := fun i H => kvs.length ≤ i ∧ H a = some (.frz o (.dK kvs))
theorem turn_dict {P : Program} {w : World} {K : PySem.W.Frag} {tg : Expr} {a it : Addr} {o : Obj} {kvs : List (Key × V)} {vs : List (Key × Value)} {es : Array DictEntry} {ep : Nat} (hne : a ≠ it) (hkv : KV kvs vs) (hx : o.ExactDict) (hdat : o.data = .dict es ep) (hk : PySem.KeysOf (mixKind P w) es) (hp : Pairs (mixKind P w) es.toList vs) (hn : (vs.map (·.1)).Nodup) :
    Turn P w K tg (Itd a o kvs) [it] it (fun i h => h.IsKeyIter it a i kvs.length ep) where
  mem := by simp
  obj := fun i h st b hb => by
    have e : b = it := by simpa using hb
    subst e
    obtain ⟨o, e, c, d⟩ := st
    exact ⟨o, e, fun v z => by rw [d] at z; cases z⟩
  keep := fun i h h' st k => st.at fun o e => k it (by simp) o e
  item := by
    intro X hP hw hK hc i pins s σ H E I hf st hg
    subst hP hw hK
    obtain ⟨hi, hH⟩ := hg
    obtain ⟨ho, _⟩ := (show ObjOk X.prog X.w H s.heap a (.frz o (.dK kvs)) from I.hok a _ hH)
    have hm : s.heap.DictAt (mixKind X.prog X.w) a vs ep := ⟨o, es, ho, hx, hdat, hk, hp, hn⟩
    obtain ⟨hl, hat⟩ := kv_at hkv
    have hi' : i < vs.length := by rw [← hl]; exact hi
    obtain ⟨⟨k, x⟩, hxk⟩ : ∃ p, vs[i]? = some p := ⟨vs[i], by simp [hi']⟩
    obtain ⟨y, hy⟩ := hat i k x hxk
    obtain ⟨f0, f1, f2, f3, f4, f5⟩ := hf it (by simp)
    rw [hl] at st
    refine wpAny_pyNext_dict_item st hm hxk fun key h' hkey hit' hs' => ?_
    have I1 : Inv X pins σ H { s with heap := h' } := I.turned (t' := s.toks) (fun b o hb e => hs'.extBut b o hb e) f0 f1 f3 f4 f5
    obtain ⟨o', e', c', d'⟩ := id hit'
    exact ⟨key, rfl, go_of (s := { s with heap := h' }) e' c' d' (by decide) ⟨kV k, H, I1, key_rel hkey, ⟨rfl, k, y, hy, rfl⟩, by rw [hl]; exact hit', fun b hb => (hf b hb).1⟩⟩
  done := by
    intro X hP hw hK hc i pins s σ H E I hf st hg
    subst hP hw hK
    obtain ⟨hi, hH⟩ := hg
    obtain ⟨ho, _⟩ := (show ObjOk X.prog X.w H s.heap a (.frz o (.dK kvs)) from I.hok a _ hH)
    have hm : s.heap.DictAt (mixKind X.prog X.w) a vs ep := ⟨o, es, ho, hx, hdat, hk, hp, hn⟩
    obtain ⟨hl, hat⟩ := kv_at hkv
    obtain ⟨f0, f1, f2, f3, f4, f5⟩ := hf it (by simp)
    rw [hl] at st
    exact wpAny_pyNext_dict_end (I.ok.hd hc) st hm (by rw [List.getElem?_eq_none_iff]; omega) fun h' eb => ⟨rfl, I.turned (t' := s.toks) (fun b o hb e => eb b o hb e) f0 f1 f3 f4 f5⟩
  self := fun _ _ _ _ _ st h => wpAny_pyIter_keyiter st h
section
variable {X : Cx} {tg : Expr}
noncomputable def iDict (tl : TE) : TI := fun σ H R => tl σ H fun x H1 => ∃ a kvs, x = .ref a ∧ H1 a = some (.dK kvs) ∧ ∀ o, R (Itd a o kvs) (upd H1 a (.frz o (.dK kvs)))
theorem pi_dict {l : Expr} {tl : TE} (hl : PE X l tl) : PI X tg l (iDict tl) := by
  intro pins s σ H R I h
  refine thn (hl pins s σ H _ I h) fun v s1 ⟨x, H1, I1, r1, q1⟩ => ?_
  obtain ⟨a, kvs, e, hq, q⟩ := q1
  subst e
  cases r1
  obtain ⟨hz, lo, vs, hkv, hd⟩ := (show ObjOk X.prog X.w H1 s1.heap a (.dK kvs) from I1.hok a _ hq)
  obtain ⟨o, es, ep, ho, hx, hdat, hk, hp, hn⟩ := id hd
  have hl := (kv_at hkv).1
  have I2 : Inv X pins σ (upd H1 a (.frz o (.dK kvs))) { s1 with heap := s1.heap, toks := s1.toks } := I1.write (x := a) (e := a) (h' := s1.heap) (by rw [hq]; exact trivial) (.inl rfl) (fun b u _ e => e) ⟨o, ho⟩ ⟨ho, hz, lo, vs, hkv, hd⟩
  refine wpAny_pyIter_dict lo ⟨o, es, ho, hx, hdat, hk, hp, hn⟩ ?_
  have hlt : a < s1.heap.objs.size := Heap.lt_size ho
  rw [← hl]
  refine ⟨s1.heap.objs.size, [s1.heap.objs.size], _, _, _, rfl, I2.kept (t' := s1.toks) fun b o e => Heap.get?_push_of_some _ e, turn_dict (Nat.ne_of_lt hlt) hkv hx hdat hk hp hn, ⟨_, Heap.get?_push_size _ rfl, rfl, rfl⟩, fun b hb => ?_, q o⟩
  have e : b = s1.heap.objs.size := by simpa using hb
  subst e
  exact I2.fpOk (Nat.le_refl _) (I2.hok.fresh (Nat.le_refl _))
theorem qi_dict {l : Expr} {tl : TE} (hl : QE X l tl) : QI X tg l (iDict tl) := ⟨pi_dict hl.h⟩
end
theorem for_dict {a : Addr} {o : Obj} {kvs : List (Key × V)} {g : TG} {tb : TS} {D : Ends} {σ : St} {H : Hp} (Pv : Nat → St → Hp → Prop) (h0 : Pv 0 σ H) (hl : ∀ i σ H, i ≤ kvs.length → Pv i σ H → H a = some (.frz o (.dK kvs)))
    (hs : ∀ i k v σ H, kvs[i]? = some (k, v) → Pv i σ H → g (kV k) σ H fun σ2 H2 => tb { D with nx := Pv (i + 1), ct := Pv (i + 1), bk := D.nx } σ2 H2) (hd : ∀ σ H, Pv kvs.length σ H → D.nx σ H) :
    ∃ W : Nat → Nat → St → Hp → Prop, (∃ m, W 0 m σ H) ∧ ∀ i m σ H, W i m σ H →
      ((Itd a o kvs).stop i H ∧ D.nx σ H) ∨ ((Itd a o kvs).go i H ∧ ∃ N : St → Hp → Prop, (∀ σ' H', N σ' H' → ∃ m', m' < m ∧ W (i + 1) m' σ' H') ∧ ∀ x H', (Itd a o kvs).yld i H x H' → g x σ H' fun σ2 H2 => tb { D with nx := N, ct := N, bk := D.nx } σ2 H2) := by
  refine ⟨fun i m σ H => m = kvs.length - i ∧ i ≤ kvs.length ∧ Pv i σ H, ⟨kvs.length, by simp, Nat.zero_le _, h0⟩, ?_⟩
  rintro i m σ H ⟨rfl, hi, p⟩
  have q := hl i σ H hi p
  by_cases hlt : i < kvs.length
  · refine .inr ⟨⟨hlt, q⟩, Pv (i + 1), fun σ' H' p' => ⟨kvs.length - (i + 1), by omega, rfl, hlt, p'⟩, fun x H' y => ?_⟩
    obtain ⟨e, k, v, hk, ex⟩ := y
    subst e ex
    exact hs i k v σ _ hk p
  · have e : i = kvs.length := by omega
    subst e
    exact .inl ⟨⟨Nat.le_refl _, q⟩, hd σ H p⟩
/-! ### dict(d) -/
section
variable {X : Cx}
theorem call_dictD : CallR X (.type "dict") (fun xs H Q => ∃ a kvs, xs = [.ref a] ∧ Rd H a (.dK kvs) ∧ ∀ p, H p = none → Q (.ref p) (upd H p (.dK kvs))) := by
  intro pins s σ H xs us Q I r h
  obtain ⟨a, kvs, rfl, ha, q⟩ := h
  obtain ⟨u, rfl, rx⟩ := vals1 r
  cases rx
  obtain ⟨hz, lo, vs, hkv, hd⟩ := (show ObjOk X.prog X.w H s.heap a (.dK kvs) from ha.ok I.hok)
  have hl := (kv_at hkv).1
  refine kt_call_dict lo hd (Nat.le_trans (Nat.le_of_eq hl.symm) hz) fun h' hd' hs' => ?_
  have keep : ∀ b u, s.heap.get? b = some u → h'.get? b = some u := fun b u e => by
    have hb : b ≠ s.heap.objs.size := Nat.ne_of_lt (Heap.lt_size e)
    rw [hs'.2 b hb]; exact Heap.get?_push_of_some _ e
  refine ⟨.ref s.heap.objs.size, _, I.laid (t' := s.toks) keep (Nat.le_refl _) (show ObjOk X.prog X.w _ h' _ (.dK kvs) from ⟨hz, ?_, vs, hkv, hd'⟩), rfl, q _ (I.hok.fresh (Nat.le_refl _))⟩
  exact beq_eq_false_iff_ne.mpr (Nat.ne_of_gt I.big)
theorem qc_dictD : QCall X (.type "dict") (fun xs H Q => ∃ a kvs, xs = [.ref a] ∧ Rd H a (.dK kvs) ∧ ∀ p, H p = none → Q (.ref p) (upd H p (.dK kvs))) := ⟨call_dictD⟩
end
/-! ### alike, part by part -/
theorem val_at {κ : Type} [DecidableEq κ] : ∀ {vs : List (κ × Value)} {i : Nat} {k : κ} {u : Value}, (vs.map (·.1)).Nodup → vs[i]? = some (k, u) → valueAt vs k = some u
  | [], i, k, u, _, h => by simp at h
  | p :: vs, i, k, u, hn, h => by
    rw [List.map_cons, List.nodup_cons] at hn
    unfold valueAt
    cases i with
    | zero =>
      have : p = (k, u) := by simpa using h
      subst this
      simp
    | succ i =>
      have h' : vs[i]? = some (k, u) := by simpa using h
      have hk : k ∈ vs.map (·.1) := List.mem_map.mpr ⟨(k, u), List.mem_of_getElem? h', rfl⟩
      have hne : ¬ p.1 = k := fun z => hn.1 (z ▸ hk)
      have ih := val_at hn.2 h'
      unfold valueAt at ih
      simp [hne] at ih ⊢
      exact ih
noncomputable def plainV : V → Bool
  | .byt _ => false
  | .flt _ => false
  | _ => true
theorem eqAt_sameV {A : Around} {s : Shared} {x : V} {u v : Value} (hx : plainV x = true) (r : RelV x u) (r' : RelV x v) : SeqAt.EqAt A s u v true := by
  cases x with
  | int i => obtain ⟨t, rfl⟩ := r; obtain ⟨t', rfl⟩ := r'; have := SeqAt.EqAt.int_int (A := A) (s := s) i t i t'; simpa using this
  | str i => obtain ⟨t, rfl⟩ := r; obtain ⟨t', rfl⟩ := r'; have := SeqAt.EqAt.str_str (A := A) (s := s) i t i t'; simpa using this
  | non => cases r; cases r'; exact SeqAt.EqAt.same _
  | bl b => cases r; cases r'; exact SeqAt.EqAt.same _
  | ref a => cases r; cases r'; exact SeqAt.EqAt.same _
  | ty a => cases r; cases r'; exact SeqAt.EqAt.same _
  | byt a => exact absurd (show false = true from hx) Bool.false_ne_true
  | flt a => exact absurd (show false = true from hx) Bool.false_ne_true
theorem kv_get {κ : Type} : ∀ {kvs : List (κ × V)} {vs : List (κ × Value)}, KV kvs vs → ∀ (i : Nat) (k : κ) (x : Value), vs[i]? = some (k, x) → ∃ y, kvs[i]? = some (k, y) ∧ RelV y x
  | _, _, .nil => fun i k x h => by simp at h
  | _, _, .cons (a := p) (b := q) h t => fun i k x e => by
    cases i with
    | zero => cases e; exact ⟨p.2, by rw [List.getElem?_cons_zero]; cases p; simp only at h ⊢; rw [h.1], h.2⟩
    | succ i => exact kv_get t i k x (by simpa using e)
theorem kv_got {κ : Type} : ∀ {kvs : List (κ × V)} {vs : List (κ × Value)}, KV kvs vs → ∀ (i : Nat) (k : κ) (y : V), kvs[i]? = some (k, y) → ∃ x, vs[i]? = some (k, x) ∧ RelV y x
  | _, _, .nil => fun i k x h => by simp at h
  | _, _, .cons (a := p) (b := q) h t => fun i k x e => by
    cases i with
    | zero => cases e; exact ⟨q.2, by rw [List.getElem?_cons_zero]; cases q; simp only at h ⊢; rw [h.1], h.2⟩
    | succ i => exact kv_got t i k x (by simpa using e)
theorem hits_of {κ : Type} [DecidableEq κ] {A : Around} {s : Shared} {kb : List (κ × Value)} : ∀ {ka : List (κ × Value)}, (∀ k u, (k, u) ∈ ka → ∃ y, valueAt kb k = some y ∧ SeqAt.EqAt A s u y true) → PySem.W.KeqHits A s kb ka true
  | [], _ => .nil
  | (k, u) :: r, h => by
    obtain ⟨y, h1, h2⟩ := h k u (by simp)
    exact PySem.W.KeqHits.hit (e := true) (b := true) h1 h2 (hits_of fun k u m => h k u (by simp [m]))
noncomputable def EqIn (P : Program) (w : World) (A : Around) (s : Shared) (y x : Value) : Prop := ∀ (E : Value → Shared → Prop) (Q : Bool → Shared → Prop), Q true s → wpAny (model P w) A (eqBool y x) Q E s
theorem EqIn.of {P : Program} {w : World} {A : Around} {s : Shared} {y x : Value} (h : SeqAt.EqAt A s y x true) : EqIn P w A s y x := fun E Q q => h P w E Q q
theorem eqIn_dicts {A : Around} {s : Shared} {P : Program} {w : World} {a b : Addr} {kvs : List (Key × V)} {va vb : List (Key × Value)} (la : (a == sysModules) = false) (lb : (b == sysModules) = false) (ka : KV kvs va) (kb : KV kvs vb) (da : s.heap.DictOf (mixKind P w) a va) (db : s.heap.DictOf (mixKind P w) b vb) (hpl : ∀ p ∈ kvs, plainV p.2 = true) (hu : A.units < cLine) : EqIn P w A s (.ref a) (.ref b) := fun E Q q => by
  by_cases hab : a = b
  · subst hab; exact SeqAt.EqAt.same (.ref a) P w E Q q
  have hn : (vb.map (·.1)).Nodup := let ⟨_, _, _, _, _, _, _, _, hn⟩ := db; hn
  have hl : va.length = vb.length := by rw [← (kv_at ka).1, ← (kv_at kb).1]
  unfold eqBool
  refine wpAny_holding (wpAny_ite_split (fun z => absurd (by have := eq_of_beq z; injection this) hab) fun _ => wpAny_bind ?_)
  refine PySem.W.keq_eq (r := true) la lb da db hu (fun _ => hits_of fun k u m => ?_) (wpAny_truthy_bool ?_)
  · obtain ⟨i, hi⟩ := List.getElem?_of_mem m
    obtain ⟨y, hy, ry⟩ := kv_get ka i k u hi
    obtain ⟨x, hx, rx⟩ := kv_got kb i k y hy
    exact ⟨x, val_at hn hx, eqAt_sameV (hpl (k, y) (List.mem_of_getElem? hy)) ry rx⟩
  · rw [hl]; simpa using q
/-- two lists, alike place by place -/
theorem loopIn {P : Program} {w : World} (p q : Addr) (xs ys : Array Value) (n m : Nat) (d1 d2 : Option Addr) (t1 t2 : Array (Option Value)) (hxy : xs.size = ys.size) (k : Nat) :
    ∀ i : Nat, xs.size - i = k → MeetsIn P w (Builtin.«list.__eq__.loop» ⟨[.ref p, .ref q, rawInt i, rawInt 2], []⟩)
      (fun A R s => s.heap.get? p = some { cls := .type "list", dict := d1, data := .seq xs n, slots := t1 } ∧ s.heap.get? q = some { cls := .type "list", dict := d2, data := .seq ys m, slots := t2 } ∧
        (∀ j (u : j < xs.size) (v : j < ys.size), EqIn P w A.in1 s xs[j] ys[j]) ∧ R (.ok (.ret (.bool true))) s) := by
  induction k with
  | zero =>
    intro i hi A R s z
    obtain ⟨hp, g, d, tk, os⟩ := s
    obtain ⟨z1, z2, ze, z⟩ := z
    wp_walk using wpAny_loadPart' z1, wpAny_loadPart' z2
    have i1 : xs[((i : Nat) : Int).toNat]? = none := by simp; omega
    have i2 : ys[((i : Nat) : Int).toNat]? = none := by simp; omega
    rw [i1, i2]
    wp_walk using wpAny_loadPart' z1, wpAny_loadPart' z2
    show R (.ok (.ret (.bool (xs.size == ys.size)))) _
    rw [hxy, beq_self_eq_true]; exact z
  | succ k ih =>
    intro i hi A R s z
    obtain ⟨hp, g, d, tk, os⟩ := s
    obtain ⟨z1, z2, ze, z⟩ := z
    wp_walk using wpAny_loadPart' z1, wpAny_loadPart' z2
    have l1 : i < xs.size := by omega
    have l2 : i < ys.size := by omega
    have i1 : xs[((i : Nat) : Int).toNat]? = some xs[i] := by simp [l1]
    have i2 : ys[((i : Nat) : Int).toNat]? = some ys[i] := by simp [l2]
    rw [i1, i2]
    refine wpAny_bind (ze i l1 l2 _ _ ?_)
    wp_walk
    rw [show ((i : Int) + 1) = ((i + 1 : Nat) : Int) by push_cast; rfl]
    exact ⟨plainId_quiet MeetsSeq3.plain_eq_loop _, codeAny_builtin MeetsSeq3.entry_eq_loop (by
      rw [Around.under_plainId MeetsSeq3.plain_eq_loop _]
      exact ih (i + 1) (by omega) A R _ ⟨z1, z2, ze, z⟩)⟩
theorem eqIn_lists {P : Program} {w : World} {A : Around} {s : Shared} {E : Value → Shared → Prop} {Q : Value → Shared → Prop} {p q : Addr} {xs ys : Array Value} (hp : s.heap.IsList p xs) (hq : s.heap.IsList q ys) (hxy : xs.size = ys.size) (hu : A.units < cLine)
    (he : ∀ j (u : j < xs.size) (v : j < ys.size), EqIn P w A.in1 s xs[j] ys[j]) (h : Q (.bool true) s) : wpAny (model P w) A (compareOp .Eq (.ref p) (.ref q)) Q E s := by
  obtain ⟨⟨c1, d1, dt1, t1⟩, hp, hc1, n, hd1⟩ := hp
  obtain ⟨⟨c2, d2, dt2, t2⟩, hq, hc2, m, hd2⟩ := hq
  simp only at hc1 hd1 hc2 hd2
  subst hc1 hd1 hc2 hd2
  have hne : ¬ (xs.size != ys.size) = true := by simp [hxy]
  have f3 := AutoSeq1.sub_list_list
  have g : MeetsIn P w (Builtin.«list.__eq__» ⟨[.ref p, .ref q], []⟩) (fun A R s => s.heap.get? p = some { cls := .type "list", dict := d1, data := .seq xs n, slots := t1 } ∧ s.heap.get? q = some { cls := .type "list", dict := d2, data := .seq ys m, slots := t2 } ∧
        (∀ j (u : j < xs.size) (v : j < ys.size), EqIn P w A.in1 s xs[j] ys[j]) ∧ R (.ok (.ret (.bool true))) s) := by
    intro A R s z
    obtain ⟨hp, g, d, tk, os⟩ := s
    obtain ⟨z1, z2, ze, z⟩ := z
    wp_walk using AutoSeq1.wpAny_loadPart' z1, AutoSeq1.wpAny_loadPart' z2
    exact ⟨plainId_quiet MeetsSeq3.plain_eq_loop _, codeAny_builtin MeetsSeq3.entry_eq_loop (by
      rw [Around.under_plainId MeetsSeq3.plain_eq_loop _]
      exact loopIn p q xs ys n m d1 d2 t1 t2 hxy _ 0 rfl A R _ ⟨z1, z2, ze, z⟩)⟩
  have hT : s.TypeIs (.ref p) "list" := ⟨_, hp, rfl⟩
  refine wpAny_richCompare_same_room (op := .Eq) hT ⟨_, hq, rfl⟩ F.slot_list_eq (call_meetsIn F.slot_list_eq hT F.entry_list_eq (F.args_list_eq_2 _ _) g ⟨hp, hq, he, ?_⟩) hu
  exact ⟨(fun x => nomatch x), h⟩
noncomputable def EqV (H : Hp) (x y : V) : Prop := (x = y ∧ plainV x = true) ∨ ∃ a b kvs, x = .ref a ∧ y = .ref b ∧ Rd H a (.dK kvs) ∧ Rd H b (.dK kvs) ∧ ∀ p ∈ kvs, plainV p.2 = true
section
variable {X : Cx}
/-! ### sorted: texts, fewer than 64 -/
theorem strsAre_of {ts : List Str} : ∀ {us : List Value}, Vals (ts.map V.str) us → StrsAre us ts := by
  induction ts with
  | nil => intro us r; cases r; exact .nil
  | cons n ns ih =>
    intro us r
    rw [List.map_cons] at r
    cases r with
    | cons r1 r2 =>
      obtain ⟨t, e⟩ := r1
      subst e
      exact .cons n t (ih r2)
theorem vals_strs : ∀ {us : List Value} {ts : List Str}, StrsAre us ts → Vals (ts.map V.str) us
  | _, _, .nil => .nil
  | _, _, .cons y t h => .cons ⟨t, rfl⟩ (vals_strs h)
theorem call_sortedT : CallR X (.builtin "sorted") (fun xs H Q => ∃ (a : Addr) (ts : List Str), xs = [.ref a] ∧ SqL X.K H a (ts.map V.str) ∧ ts.length < 64 ∧ ∀ (p : Addr) (us : List Str), H p = none → us.Perm ts → Q (.ref p) (upd H p (.lst (us.map V.str)))) := by
  intro pins s σ H xs us Q I r h
  obtain ⟨a, ts, rfl, ha, hl, q⟩ := h
  obtain ⟨u, rfl, rx⟩ := vals1 r
  cases rx
  obtain ⟨its, rv, pl, _⟩ := I.list ha
  have hli : its.length = ts.length := by have := rv.length; rw [List.length_map] at this; exact this.symm
  refine sorted_strs pl.isList (strsAre_of rv) (by omega) fun out ss h1 h2 h3 => ?_
  obtain ⟨e, he⟩ := sortedAll_at s.heap its out
  have hfr : H (s.heap.objs.size + 1) = none := I.hok.fresh (Nat.le_succ _)
  have hsl := h2.length_eq
  have hz : (ss.map V.str).length ≤ sizeLine := by rw [List.length_map, hsl, sizeLine_eq]; omega
  exact ⟨.ref (s.heap.objs.size + 1), _, I.laid (t' := s.toks) (o := .lst (ss.map V.str)) (fun b u e => sortedAll_old e) (Nat.le_succ _) ⟨hz, out.toList, e, vals_strs h1, by simpa [seqObj] using he⟩, rfl, q _ ss hfr h2⟩
theorem qc_sortedT : QCall X (.builtin "sorted") (fun xs H Q => ∃ (a : Addr) (ts : List Str), xs = [.ref a] ∧ SqL X.K H a (ts.map V.str) ∧ ts.length < 64 ∧ ∀ (p : Addr) (us : List Str), H p = none → us.Perm ts → Q (.ref p) (upd H p (.lst (us.map V.str)))) := ⟨call_sortedT⟩
end
end L2
namespace RB
open PySem L2 PySem.Spec PyProof.Rows
/-! ### (name, number) not in a row of reads -/
noncomputable def rdT (p : Rdp) : PyData := .tuple [.str p.1, .int p.2]
theorem rdT_eqv (p t : Rdp) : PyData.eqv (rdT p) (rdT t) = decide (p = t) := by
  obtain ⟨a, i⟩ := p
  obtain ⟨b, j⟩ := t
  simp only [rdT, PyData.eqv, PyData.eqvAll]
  by_cases h1 : a = b
  · by_cases h2 : i = j
    · simp [h1, h2]
    · simp [h1, h2]
  · simp [h1]
theorem rdT_shaped {p : Rdp} (h : GName p.1) : SeqAt.shaped (rdT p) = true := by
  have hs := strOk_name h
  have h5 : (rdT p).canLay0 = true := by
    show (PyData.strOk p.1 && (true && true)) = true
    rw [hs]; rfl
  have h4 : (rdT p).depth ≤ 64 := by simp only [rdT, PyData.depth, PyData.depthAll]; omega
  show (_ && decide _) = true
  rw [h5, decide_eq_true h4]; rfl
open Classical in
noncomputable def isT (H : Hp) (t : Rdp) : Value → Bool
  | .ref a => decide (H a = some (.tup (rdV t)))
  | _ => false
open Classical in
theorem isT_yes {H : Hp} {t : Rdp} {a : Addr} (h : H a = some (.tup (rdV t))) : isT H t (.ref a) = true := by
  unfold isT
  exact decide_eq_true h
open Classical in
theorem isT_no {H : Hp} {t : Rdp} {a : Addr} (h : ¬ H a = some (.tup (rdV t))) : isT H t (.ref a) = false := by
  unfold isT
  exact decide_eq_false h
theorem rdV_inj {p t : Rdp} (h : rdV p = rdV t) : p = t := by
  obtain ⟨a, i⟩ := p
  obtain ⟨b, j⟩ := t
  unfold rdV at h
  simp only [List.cons.injEq, V.str.injEq, V.int.injEq, and_true] at h
  rw [h.1, h.2]
theorem any_isT {H : Hp} {t : Rdp} : ∀ {as : List Addr} {ps : List Rdp} {its : List Value}, IsRds H as ps → Vals (as.map V.ref) its → its.any (isT H t) = decide (t ∈ ps)
  | _, _, _, .nil, r => by cases r; simp
  | _, _, _, .cons (a := a) (p := p) (as := as) (ps := ps) h g, r => by
    cases r with
    | cons r1 r2 =>
      cases r1
      rw [List.any_cons, any_isT g r2]
      have e : isT H t (.ref a) = decide (t = p) := by
        by_cases z : t = p
        · rw [decide_eq_true z, isT_yes (by rw [z]; exact h)]
        · rw [decide_eq_false z, isT_no (fun w => z (rdV_inj (by rw [h] at w; exact (HO.tup.inj (Option.some.inj w)).symm)))]
      rw [e]
      by_cases z : t = p
      · simp [z]
      · simp [z]
theorem op_notInP {X : Cx} (hu : X.A.units + 64 < cLine) : OpR X (compareOp .NotIn) (fun x y H Q => ∃ (a l : Addr) (as : List Addr) (ps : List Rdp) (t : Rdp), x = .ref a ∧ y = .ref l ∧ H a = some (.tup (rdV t)) ∧ SqL X.K H l (as.map V.ref) ∧ IsRds H as ps ∧ (∀ p ∈ ps, GName p.1) ∧ GName t.1 ∧ Q (.bl (!decide (t ∈ ps))) H) := by
  intro pins s σ H x y v u Q I rx ry h
  obtain ⟨a, l, as, ps, t, rfl, rfl, ha, hl, hR, hg, ht, q⟩ := h
  cases rx
  cases ry
  obtain ⟨its, r, pl, _⟩ := I.list hl
  have dt : DatV X.K H (.ref a) (rdT t) := .tup (SqT.of ha) (.cons (.str _) (.cons (.int _) .nil))
  obtain ⟨bs, rt⟩ := dt.reads I (show RelV (.ref a) (.ref a) from rfl)
  refine SeqAt.notIn_listAt (isT H t) pl.isList (fun y hy => ?_) ⟨.bl _, H, I, rfl, ?_⟩
  · have hy : y ∈ its := by simpa using hy
    obtain ⟨i, hi⟩ := List.getElem?_of_mem hy
    have hli : i < (as.map V.ref).length := by
      have := (List.getElem?_eq_some_iff.mp hi).1
      rw [r.length]; exact this
    have hx : (as.map V.ref)[i]? = some ((as.map V.ref)[i]) := List.getElem?_eq_getElem hli
    obtain ⟨c, hc, ec⟩ := ref_at hx
    obtain ⟨p, hp, ep⟩ := hR.get i c hc
    obtain ⟨z, hz, rz⟩ := r.get hx
    rw [hi] at hz
    cases hz
    rw [ec] at rz
    cases rz
    have dp : DatV X.K H (.ref c) (rdT p) := .tup (SqT.of ep) (.cons (.str _) (.cons (.int _) .nil))
    obtain ⟨cs, rp⟩ := dp.reads I (show RelV (.ref c) (.ref c) from rfl)
    have k : SeqAt.EqAt X.A.in1 s (.ref c) (.ref a) (PyData.eqv (rdT p) (rdT t)) := SeqAt.eqAt_reads _ _ _ _ _ _ _ _ rp rt (SeqAt.canLay_of_shaped (rdT_shaped (hg p (List.mem_of_getElem? hp)))) (SeqAt.canLay_of_shaped (rdT_shaped ht)) (by
      have h1 : (rdT p).depth ≤ 4 := by simp only [rdT, PyData.depth, PyData.depthAll]; omega
      have h2 : min (rdT p).depth (rdT t).depth ≤ (rdT p).depth := Nat.min_le_left _ _
      have h3 : X.A.in1.units = X.A.units + 1 := rfl
      omega)
    rw [rdT_eqv] at k
    have e : isT H t (.ref c) = decide (p = t) := by
      by_cases z : p = t
      · rw [decide_eq_true z, isT_yes (by rw [← z]; exact ep)]
      · rw [decide_eq_false z, isT_no (fun w => z (rdV_inj (by rw [ep] at w; exact HO.tup.inj (Option.some.inj w))))]
    rw [e]; exact k
  · rw [show its.toArray.any (isT H t) = its.any (isT H t) by simp, any_isT hR r]
    exact q
theorem qop_notInP {X : Cx} (hu : X.A.units + 64 < cLine) : QOp X (compareOp .NotIn) (fun x y H Q => ∃ (a l : Addr) (as : List Addr) (ps : List Rdp) (t : Rdp), x = .ref a ∧ y = .ref l ∧ H a = some (.tup (rdV t)) ∧ SqL X.K H l (as.map V.ref) ∧ IsRds H as ps ∧ (∀ p ∈ ps, GName p.1) ∧ GName t.1 ∧ Q (.bl (!decide (t ∈ ps))) H) := ⟨op_notInP hu⟩
end RB
namespace L2
open PySem PySem.Spec PyProof.Rows
section
variable {X : Cx} {o e : Expr} {td ty : TE} {apos cpos : Pos}
theorem qe_dpop1 (ho : QE X o td) (he : QE X e ty) (m : M1 X o "pop" apos e cpos) : QE X (.Call (.Attribute o "pop" apos) [e] [] cpos) (tDPop1 td ty) := ⟨pe_dpop1 ho.h he.h m⟩
end
end L2

set_option maxRecDepth 100000
namespace RB
open PySem L2 PySem.Spec PyProof.Rows
/-! ### the recipes of k31 to k41 -/
noncomputable def R.T3 : R → Prop
  | .num _ => True
  | .rd _ => True
  | .bin op a b => a.T3 ∧ b.T3 ∧ (op = .times → ∃ n, b = .num n ∧ -100 ≤ n ∧ n ≤ 100)
  | .pick a b c => a.T3 ∧ b.T3 ∧ c.T3
  | .cho a ns => a.T3 ∧ 1 ≤ ns.length
structure Rk3 (ns : List Str) (d : Nat) (r : R) : Prop where
  g : r.Good
  t : r.T3
  i : r.In ns
  d : r.depth ≤ d
noncomputable def sp3Lf : Sp := fun vs H Q _ => ∃ (p l : Addr) (c : Nat) (ns : List Str), vs = [.ref p, .ref l] ∧ PoolAt H p c ∧ c ≤ 50000 ∧ H l = some (.lst (ns.map V.str)) ∧ 1 ≤ ns.length ∧ ns.length ≤ 9 ∧ (∀ x ∈ ns, GName x) ∧
  ∀ a r H', But [p] H H' → PoolAt H' p (c + 6) → IsR H' a r → Rk3 ns 1 r → Q (.ref a) H'
noncomputable def tk3 : Nat → Nat
  | 0 => 10
  | d + 1 => 3 * tk3 d + 20
theorem tk3_pos (d : Nat) : 10 ≤ tk3 d := by
  induction d with
  | zero => exact Nat.le_refl _
  | succ d ih => show 10 ≤ 3 * tk3 d + 20; omega
noncomputable def sp3Rc (d : Nat) : Sp := fun vs H Q _ => ∃ (p l : Addr) (c : Nat) (ns : List Str) (deep : Int), vs = [.ref p, .ref l, .int deep] ∧ deep = (d : Int) ∧ d ≤ 3 ∧ PoolAt H p c ∧ c ≤ 10000 + 1000 * (4 - d) ∧ H l = some (.lst (ns.map V.str)) ∧ 1 ≤ ns.length ∧ ns.length ≤ 9 ∧ (∀ x ∈ ns, GName x) ∧
  ∀ a r H', But [p] H H' → PoolAt H' p (c + tk3 d) → IsR H' a r → Rk3 ns (d + 1) r → Q (.ref a) H'
theorem PoolAt.ne {H : Hp} {p q : Addr} {c : Nat} (h : PoolAt H p c) (hq : H q = none) : q ≠ p := fun z => by
  obtain ⟨r, m, k, e', _⟩ := h
  rw [← z, hq] at e'; cases e'
theorem PoolAt.nel {H : Hp} {p l : Addr} {c : Nat} {xs : List V} (h : PoolAt H p c) (hl : H l = some (.lst xs)) : l ∉ [p] := fun z => by
  obtain ⟨r, m, k, e', _⟩ := h
  have : l = p := by simpa using z
  rw [this, e'] at hl; cases hl
theorem PoolAt.mono {H : Hp} {p : Addr} {c c' : Nat} (h : PoolAt H p c) (hc : c ≤ c') : PoolAt H p c' := by
  obtain ⟨r, m, k, e, h0, h1⟩ := h
  exact ⟨r, m, k, e, h0, by omega⟩
noncomputable def sp3P : Nat → Sp
  | 0 => fun _ _ _ _ => False
  | d + 1 => sp3Rc d
noncomputable def sp3RA : Sp := fun vs H Q _ => ∃ (p l : Addr) (c : Nat) (ns : List Str) (deep : Int), vs = [.ref p, .ref l, .int deep] ∧ 0 ≤ deep ∧ deep < 4 ∧ PoolAt H p c ∧ c ≤ 6000 ∧ H l = some (.lst (ns.map V.str)) ∧ 1 ≤ ns.length ∧ ns.length ≤ 9 ∧ (∀ x ∈ ns, GName x) ∧
  ∀ a r H', But [p] H H' → PoolAt H' p (c + 530) → IsR H' a r → Rk3 ns 4 r → Q (.ref a) H'
end RB

set_option maxRecDepth 100000
namespace RB
open PySem L2 PySem.Spec PyProof.Rows
/-! ### dicts whose keys are texts -/
structure Keys (kvs : List (Key × V)) (ks : List Str) : Prop where
  k : kvs.map (·.1) = ks.map Sum.inr
  nd : ks.Nodup
theorem Keys.len {kvs : List (Key × V)} {ks : List Str} (h : Keys kvs ks) : kvs.length = ks.length := by
  have := congrArg List.length h.k
  rwa [List.length_map, List.length_map] at this
theorem any_key {kvs : List (Key × V)} {ks : List Str} (h : Keys kvs ks) (x : Str) : (kvs.any fun kv => decide (kv.1 = (.inr x : Key))) = decide (x ∈ ks) := by
  have e : (kvs.any fun kv => decide (kv.1 = (.inr x : Key))) = (kvs.map (·.1)).any (fun k => decide (k = (.inr x : Key))) := by rw [List.any_map]; rfl
  rw [e, h.k, List.any_map]
  clear e h
  induction ks with
  | nil => rfl
  | cons y ks ih =>
    rw [List.any_cons, ih]
    by_cases hy : x = y
    · subst hy; simp
    · have : ¬ (y = x) := fun z => hy z.symm
      simp [hy, this]
theorem Keys.none {kvs : List (Key × V)} {ks : List Str} (h : Keys kvs ks) {x : Str} : valV kvs (.inr x) = none ↔ x ∉ ks := by
  have e := any_key h x
  rw [valV_any] at e
  constructor
  · intro z m
    rw [z] at e
    simp [m] at e
  · intro m
    cases z : valV kvs (.inr x) with
    | none => rfl
    | some v => rw [z] at e; simp [m] at e
theorem Keys.putNew {kvs : List (Key × V)} {ks : List Str} (h : Keys kvs ks) {x : Str} (hx : x ∉ ks) (v : V) : Keys (putK kvs (.inr x) v) (ks ++ [x]) := by
  refine ⟨?_, ?_⟩
  · rw [putK_keys, any_key h x, decide_eq_false hx, if_neg (by decide), h.k, List.map_append]; rfl
  · rw [List.nodup_append]
    exact ⟨h.nd, by simp, fun a ha b hb => by
      have : b = x := by simpa using hb
      rw [this]; exact fun z => hx (z ▸ ha)⟩
theorem Keys.putOld {kvs : List (Key × V)} {ks : List Str} (h : Keys kvs ks) {x : Str} (hx : x ∈ ks) (v : V) : Keys (putK kvs (.inr x) v) ks := by
  refine ⟨?_, h.nd⟩
  rw [putK_keys, any_key h x, decide_eq_true hx, if_pos rfl, h.k]
theorem Keys.drop {kvs : List (Key × V)} {ks : List Str} (h : Keys kvs ks) (x : Str) : Keys (dropK kvs (.inr x)) (ks.filter fun y => decide (y ≠ x)) := by
  refine ⟨?_, h.nd.sublist List.filter_sublist⟩
  unfold dropK
  have e : (kvs.filter fun kv => decide (kv.1 ≠ (.inr x : Key))).map (·.1) = (kvs.map (·.1)).filter fun k => decide (k ≠ (.inr x : Key)) := by rw [List.filter_map]; rfl
  rw [e, h.k, List.filter_map]
  congr 1
  apply List.filter_congr
  intro y _
  show decide ((Sum.inr y : Key) ≠ Sum.inr x) = decide (y ≠ x)
  by_cases hy : y = x
  · simp [hy]
  · simp [hy]
theorem filter_len {ks : List Str} (nd : ks.Nodup) {x : Str} (hx : x ∈ ks) : (ks.filter fun y => decide (y ≠ x)).length + 1 = ks.length := by
  induction ks with
  | nil => cases hx
  | cons y ks ih =>
    rw [List.nodup_cons] at nd
    by_cases hy : y = x
    · subst hy
      have : (ks.filter fun z => decide (z ≠ y)) = ks := List.filter_eq_self.mpr fun z hz => by simp; exact fun e => nd.1 (e ▸ hz)
      rw [List.filter_cons]
      simp only [ne_eq, not_true_eq_false, decide_false, if_false]
      simp
      exact fun a ha e => nd.1 (e ▸ ha)
    · have hm : x ∈ ks := by
        rcases List.mem_cons.mp hx with z | z
        · exact absurd z.symm hy
        · exact z
      have := ih nd.2 hm
      rw [List.filter_cons]
      simp only [ne_eq] at this ⊢
      simp [hy]; simpa using this
/-! ### names by number -/
noncomputable def nmK (n : Nat) : List Str := (List.range n).map nameK
theorem nameK_good {k : Nat} (h : k < 26) : GName (nameK k) := names26_good _ (List.mem_append_left _ (List.mem_map.mpr ⟨k, List.mem_range.mpr h, rfl⟩))
theorem nameK_injF : ∀ i j : Fin 26, nameK i.1 = nameK j.1 → i = j := by decide +kernel
theorem nameK_inj {i j : Nat} (hi : i < 26) (hj : j < 26) (h : nameK i = nameK j) : i = j := by
  have := nameK_injF ⟨i, hi⟩ ⟨j, hj⟩ h
  exact Fin.mk.inj this
theorem valV_drop {κ : Type} [DecidableEq κ] (k j : κ) : ∀ kvs : List (κ × V), valV (dropK kvs k) j = if j = k then none else valV kvs j
  | [] => by unfold dropK; rw [List.filter_nil, valV_nil]; split <;> rfl
  | p :: r => by
    have ih := valV_drop k j r
    unfold dropK at ih ⊢
    rw [List.filter_cons]
    by_cases e : p.1 = k
    · rw [if_neg (by simp [e]), ih]
      by_cases z : j = k
      · rw [if_pos z, if_pos z]
      · rw [if_neg z, if_neg z, valV_neg (fun w => z (w.symm.trans e))]
    · rw [if_pos (by simp [e])]
      by_cases z : p.1 = j
      · rw [valV_pos z, valV_pos z, if_neg (fun w => e (z.trans w))]
      · rw [valV_neg z, valV_neg z, ih]
theorem mem_nmK {n : Nat} {x : Str} : x ∈ nmK n ↔ ∃ k, k < n ∧ x = nameK k := by
  unfold nmK
  rw [List.mem_map]
  constructor
  · rintro ⟨k, hk, rfl⟩; exact ⟨k, List.mem_range.mp hk, rfl⟩
  · rintro ⟨k, hk, rfl⟩; exact ⟨k, List.mem_range.mpr hk, rfl⟩
theorem nmK_succ (n : Nat) : nmK (n + 1) = nmK n ++ [nameK n] := by unfold nmK; rw [List.range_succ, List.map_append]; rfl
theorem nmK_len (n : Nat) : (nmK n).length = n := by unfold nmK; rw [List.length_map, List.length_range]
theorem nmK_good {n : Nat} (h : n ≤ 26) : ∀ x ∈ nmK n, GName x := fun x hx => by
  obtain ⟨k, hk, rfl⟩ := mem_nmK.mp hx
  exact nameK_good (by omega)
theorem R.In.mono {ns ms : List Str} (h : ∀ x ∈ ns, x ∈ ms) : ∀ {r : R}, r.In ns → r.In ms
  | .num _, _ => trivial
  | .rd _, i => h _ i
  | .bin _ _ _, i => ⟨i.1.mono h, i.2.mono h⟩
  | .pick _ _ _, i => ⟨i.1.mono h, i.2.1.mono h, i.2.2.mono h⟩
  | .cho _ _, i => ⟨i.1.mono h, fun x hx => h x (i.2 x hx)⟩
theorem Rk3.mono {ns ms : List Str} {d : Nat} {r : R} (k : Rk3 ns d r) (h : ∀ x ∈ ns, x ∈ ms) : Rk3 ms d r := ⟨k.g, k.t, k.i.mono h, k.d⟩
/-! ### houses -/
noncomputable abbrev Rn := Str → Option R
noncomputable def Rn.put (rc : Rn) (x : Str) (r : R) : Rn := fun y => if y = x then some r else rc y
noncomputable def Rn.del (rc : Rn) (x : Str) : Rn := fun y => if y = x then none else rc y
noncomputable def Kn.del (kn : Kn) (x : Str) : Kn := fun y => if y = x then none else kn y
structure HsOk (n : Nat) (gv : Kn) (rc : Rn) : Prop where
  dom : ∀ k, k < n → gv (nameK k) ≠ none ∨ rc (nameK k) ≠ none
  gk : ∀ x, gv x ≠ none → x ∈ nmK n
  rk : ∀ x r, rc x = some r → ∃ k, k < n ∧ x = nameK k ∧ Rk3 (nmK k) 4 r
  dj : ∀ x, gv x ≠ none → rc x = none
  g0 : 0 < n → gv (nameK 0) ≠ none
theorem HsOk.fresh {n : Nat} {gv : Kn} {rc : Rn} (h : HsOk n gv rc) (hn : n < 26) : gv (nameK n) = none ∧ rc (nameK n) = none := by
  constructor
  · cases e : gv (nameK n) with
    | none => rfl
    | some v =>
      obtain ⟨k, hk, ek⟩ := mem_nmK.mp (h.gk (nameK n) (by rw [e]; simp))
      have := nameK_inj hn (by omega) ek
      omega
  · cases e : rc (nameK n) with
    | none => rfl
    | some r =>
      obtain ⟨k, hk, ek, _⟩ := h.rk _ _ e
      have := nameK_inj hn (by omega) ek
      omega
theorem HsOk.addG {n : Nat} {gv : Kn} {rc : Rn} (h : HsOk n gv rc) (hn : n < 26) (v : Int) : HsOk (n + 1) (gv.put (nameK n) v) rc := by
  obtain ⟨f1, f2⟩ := h.fresh hn
  refine ⟨fun k hk => ?_, fun x hx => ?_, fun x r e => ?_, fun x hx => ?_, fun _ => ?_⟩
  · unfold Kn.put
    by_cases e : k = n
    · subst e; left; rw [if_pos rfl]; simp
    · rcases h.dom k (by omega) with z | z
      · left; rw [if_neg (fun w => e (nameK_inj (by omega) hn w))]; exact z
      · exact .inr z
  · rw [nmK_succ]
    unfold Kn.put at hx
    by_cases e : x = nameK n
    · rw [e]; simp
    · rw [if_neg e] at hx; exact List.mem_append_left _ (h.gk x hx)
  · obtain ⟨k, hk, ek, o⟩ := h.rk x r e
    exact ⟨k, by omega, ek, o⟩
  · unfold Kn.put at hx
    by_cases e : x = nameK n
    · rw [e]; exact f2
    · rw [if_neg e] at hx; exact h.dj x hx
  · unfold Kn.put
    by_cases e : nameK 0 = nameK n
    · rw [if_pos e]; simp
    · rw [if_neg e]
      by_cases z : n = 0
      · subst z; exact absurd rfl e
      · exact h.g0 (by omega)
theorem HsOk.addR {n : Nat} {gv : Kn} {rc : Rn} (h : HsOk n gv rc) (hn : n < 26) (h0 : 0 < n) {r : R} (o : Rk3 (nmK n) 4 r) : HsOk (n + 1) gv (rc.put (nameK n) r) := by
  obtain ⟨f1, f2⟩ := h.fresh hn
  refine ⟨fun k hk => ?_, fun x hx => ?_, fun x r' e => ?_, fun x hx => ?_, fun _ => h.g0 h0⟩
  · unfold Rn.put
    by_cases e : k = n
    · subst e; right; rw [if_pos rfl]; simp
    · rcases h.dom k (by omega) with z | z
      · exact .inl z
      · right; rw [if_neg (fun w => e (nameK_inj (by omega) hn w))]; exact z
  · rw [nmK_succ]; exact List.mem_append_left _ (h.gk x hx)
  · unfold Rn.put at e
    by_cases z : x = nameK n
    · rw [if_pos z] at e; cases e; exact ⟨n, by omega, z, o⟩
    · rw [if_neg z] at e
      obtain ⟨k, hk, ek, o⟩ := h.rk x r' e
      exact ⟨k, by omega, ek, o⟩
  · unfold Rn.put
    rw [if_neg (fun z => by rw [z, f1] at hx; exact hx rfl)]; exact h.dj x hx
/-- what stands in a house of n, changed at one name -/
theorem HsOk.setG {n : Nat} {gv : Kn} {rc : Rn} (h : HsOk n gv rc) {k : Nat} (hk : k < n) (v : Int) : HsOk n (gv.put (nameK k) v) (rc.del (nameK k)) := by
  refine ⟨fun j hj => ?_, fun x hx => ?_, fun x r e => ?_, fun x hx => ?_, fun z => ?_⟩
  · unfold Kn.put Rn.del
    by_cases e : nameK j = nameK k
    · left; rw [if_pos e]; simp
    · rw [if_neg e, if_neg e]; exact h.dom j hj
  · unfold Kn.put at hx
    by_cases e : x = nameK k
    · rw [e]; exact mem_nmK.mpr ⟨k, hk, rfl⟩
    · rw [if_neg e] at hx; exact h.gk x hx
  · unfold Rn.del at e
    by_cases z : x = nameK k
    · rw [if_pos z] at e; cases e
    · rw [if_neg z] at e; exact h.rk x r e
  · unfold Rn.del
    unfold Kn.put at hx
    by_cases z : x = nameK k
    · rw [if_pos z]
    · rw [if_neg z] at hx ⊢; exact h.dj x hx
  · unfold Kn.put
    split
    · simp
    · exact h.g0 z
theorem HsOk.setR {n : Nat} {gv : Kn} {rc : Rn} (h : HsOk n gv rc) {k : Nat} (hn : n ≤ 26) (hk : k < n) (h0 : 0 < k) {r : R} (o : Rk3 (nmK k) 4 r) : HsOk n (gv.del (nameK k)) (rc.put (nameK k) r) := by
  refine ⟨fun j hj => ?_, fun x hx => ?_, fun x r' e => ?_, fun x hx => ?_, fun z => ?_⟩
  · unfold Kn.del Rn.put
    by_cases e : nameK j = nameK k
    · right; rw [if_pos e]; simp
    · rw [if_neg e, if_neg e]; exact h.dom j hj
  · unfold Kn.del at hx
    by_cases e : x = nameK k
    · rw [e]; exact mem_nmK.mpr ⟨k, hk, rfl⟩
    · rw [if_neg e] at hx; exact h.gk x hx
  · unfold Rn.put at e
    by_cases z : x = nameK k
    · rw [if_pos z] at e; cases e; exact ⟨k, hk, z, o⟩
    · rw [if_neg z] at e; exact h.rk x r' e
  · unfold Rn.put
    unfold Kn.del at hx
    by_cases z : x = nameK k
    · rw [if_pos z] at hx; exact absurd rfl hx
    · rw [if_neg z] at hx ⊢; exact h.dj x hx
  · unfold Kn.del
    rw [if_neg (fun w => by have := nameK_inj (by omega) (by omega) w; omega)]; exact h.g0 z
end RB
namespace RB
open PySem L2 PySem.Spec PyProof.Rows
/-- the two dicts hold the house -/
structure Bld (H : Hp) (kg kc : List (Key × V)) (n : Nat) (gv : Kn) (rc : Rn) : Prop where
  ok : HsOk n gv rc
  k : ∃ gs cs, Keys kg gs ∧ Keys kc cs ∧ gs.length + cs.length = n
  g : ∀ x, valV kg (.inr x) = (gv x).map V.int
  r : ∀ x r, rc x = some r → ∃ b, valV kc (.inr x) = some (.ref b) ∧ IsR H b r
  rn : ∀ x, rc x = none → valV kc (.inr x) = none
theorem Bld.tups {H H' : Hp} {kg kc : List (Key × V)} {n : Nat} {gv : Kn} {rc : Rn} (h : Bld H kg kc n gv rc) (t : Tups H H') : Bld H' kg kc n gv rc :=
  ⟨h.ok, h.k, h.g, fun x r e => let ⟨b, h1, h2⟩ := h.r x r e; ⟨b, h1, h2.tups t⟩, h.rn⟩
noncomputable def HouseG (H : Hp) (h g c : Addr) (n : Nat) (gv : Kn) (rc : Rn) : Prop := ∃ kg kc, H h = some (.tup [.ref g, .ref c]) ∧ H g = some (.dK kg) ∧ H c = some (.dK kc) ∧ Bld H kg kc n gv rc
theorem HouseG.same {H H' : Hp} {h g c : Addr} {n : Nat} {gv : Kn} {rc : Rn} (a : HouseG H h g c n gv rc) (s : Same H H') : HouseG H' h g c n gv rc := by
  obtain ⟨kg, kc, e, e1, e2, b⟩ := a
  exact ⟨kg, kc, s _ _ e, s _ _ e1, s _ _ e2, b.tups (Same.tups s)⟩
theorem Bld.addG {H : Hp} {kg kc : List (Key × V)} {n : Nat} {gv : Kn} {rc : Rn} (h : Bld H kg kc n gv rc) (hn : n < 26) (v : Int) : Bld H (putK kg (.inr (nameK n)) (.int v)) kc (n + 1) (gv.put (nameK n) v) rc := by
  obtain ⟨gs, cs, h1, h2, h3⟩ := h.k
  have hx : nameK n ∉ gs := h1.none.mp (by rw [h.g, (h.ok.fresh hn).1]; rfl)
  refine ⟨h.ok.addG hn v, ⟨_, cs, h1.putNew hx _, h2, by rw [List.length_append]; simp; omega⟩, fun x => ?_, h.r, h.rn⟩
  rw [valV_put]
  unfold Kn.put
  by_cases z : x = nameK n
  · rw [if_pos (by rw [z]), if_pos z]; rfl
  · rw [if_neg (fun w => z (Sum.inr.inj w)), if_neg z]; exact h.g x
theorem Bld.addR {H : Hp} {kg kc : List (Key × V)} {n : Nat} {gv : Kn} {rc : Rn} (h : Bld H kg kc n gv rc) (hn : n < 26) (h0 : 0 < n) {b : Addr} {r : R} (o : Rk3 (nmK n) 4 r) (hb : IsR H b r) : Bld H kg (putK kc (.inr (nameK n)) (.ref b)) (n + 1) gv (rc.put (nameK n) r) := by
  obtain ⟨gs, cs, h1, h2, h3⟩ := h.k
  have hx : nameK n ∉ cs := h2.none.mp (h.rn _ (h.ok.fresh hn).2)
  refine ⟨h.ok.addR hn h0 o, ⟨gs, _, h1, h2.putNew hx _, by rw [List.length_append]; simp; omega⟩, h.g, fun x r' e => ?_, fun x e => ?_⟩
  · rw [valV_put]
    unfold Rn.put at e
    by_cases z : x = nameK n
    · rw [if_pos z] at e; cases e
      exact ⟨b, by rw [if_pos (by rw [z])], hb⟩
    · rw [if_neg z] at e
      rw [if_neg (fun w => z (Sum.inr.inj w))]; exact h.r x r' e
  · rw [valV_put]
    unfold Rn.put at e
    by_cases z : x = nameK n
    · rw [if_pos z] at e; cases e
    · rw [if_neg z] at e
      rw [if_neg (fun w => z (Sum.inr.inj w))]; exact h.rn x e
noncomputable def sp3Hs (K : PySem.W.Frag) : Sp := fun vs H Q _ => ∃ (a : Addr) (zs : List Int) (start : Int) (many : Nat), vs = [.ref a, .int start, .int many] ∧ SqL K H a (zs.map V.int) ∧ 0 ≤ start ∧ start ≤ 50 ∧ many ≤ 17 ∧
  ∀ h g c gv rc H', Same H H' → H h = none → H g = none → H c = none → HouseG H' h g c many gv rc → Q (.ref h) H'
theorem cut9 {n : Nat} (h : 1 ≤ n) : ∃ ns : List Str, cutV ((nmK n).map V.str) (some (-9)) none = ns.map V.str ∧ 1 ≤ ns.length ∧ ns.length ≤ 9 ∧ ∀ x ∈ ns, x ∈ nmK n := by
  unfold cutV
  have hl : ((nmK n).map V.str).length = n := by rw [List.length_map, nmK_len]
  rw [hl]
  have e1 : HT.sIx n 0 (some (-9)) = n - 9 := by
    show (if (-9 : Int) < 0 then ((-9 : Int) + (n : Int)).toNat else min (-9 : Int).toNat n) = _
    rw [if_pos (by decide)]; omega
  have e2 : HT.sIx n n none = n := rfl
  rw [e1, e2, ← List.map_drop, ← List.map_take]
  refine ⟨_, rfl, ?_, ?_, fun x hx => List.mem_of_mem_drop (List.mem_of_mem_take hx)⟩
  · rw [List.length_take, List.length_drop, nmK_len]; omega
  · rw [List.length_take, List.length_drop, nmK_len]; omega
end RB
namespace RB
open PySem L2 PySem.Spec PyProof.Rows
section
variable {H : Hp} {kg kc : List (Key × V)} {n : Nat} {gv : Kn} {rc : Rn}
theorem inr_ne {x y : Str} (h : ¬ x = y) : ¬ (Sum.inr x : Key) = Sum.inr y := fun z => h (Sum.inr.inj z)
theorem Bld.g_put (h : Bld H kg kc n gv rc) (y : Str) (v : Int) : ∀ x, valV (putK kg (.inr y) (.int v)) (.inr x) = ((gv.put y v) x).map V.int := fun x => by
  rw [valV_put]
  unfold Kn.put
  by_cases z : x = y
  · rw [if_pos (by rw [z]), if_pos z]; rfl
  · rw [if_neg (inr_ne z), if_neg z]; exact h.g x
theorem Bld.setG1 (h : Bld H kg kc n gv rc) {k : Nat} (hk : k < n) (hg : gv (nameK k) ≠ none) (v : Int) : Bld H (putK kg (.inr (nameK k)) (.int v)) kc n (gv.put (nameK k) v) (rc.del (nameK k)) := by
  obtain ⟨gs, cs, h1, h2, h3⟩ := h.k
  have hr := h.ok.dj _ hg
  have hx : nameK k ∈ gs := by
    refine Decidable.byContradiction fun z => hg ?_
    have := h1.none.mpr z
    rw [h.g] at this
    cases e : gv (nameK k) with
    | none => rfl
    | some u => rw [e] at this; cases this
  refine ⟨h.ok.setG hk v, ⟨gs, cs, h1.putOld hx _, h2, h3⟩, h.g_put _ _, fun x r e => ?_, fun x e => ?_⟩
  · unfold Rn.del at e
    by_cases z : x = nameK k
    · rw [if_pos z] at e; cases e
    · rw [if_neg z] at e; exact h.r x r e
  · unfold Rn.del at e
    by_cases z : x = nameK k
    · rw [z]; exact h.rn _ hr
    · rw [if_neg z] at e; exact h.rn x e
theorem Bld.setG2 (h : Bld H kg kc n gv rc) {k : Nat} (hk : k < n) (hr : rc (nameK k) ≠ none) (v : Int) : Bld H (putK kg (.inr (nameK k)) (.int v)) (dropK kc (.inr (nameK k))) n (gv.put (nameK k) v) (rc.del (nameK k)) := by
  obtain ⟨gs, cs, h1, h2, h3⟩ := h.k
  have hg : gv (nameK k) = none := by
    cases e : gv (nameK k) with
    | none => rfl
    | some u => exact absurd (h.ok.dj _ (by rw [e]; simp)) hr
  have hx : nameK k ∉ gs := h1.none.mp (by rw [h.g, hg]; rfl)
  have hy : nameK k ∈ cs := by
    refine Decidable.byContradiction fun z => hr ?_
    cases e : rc (nameK k) with
    | none => rfl
    | some r =>
      obtain ⟨b, hb, _⟩ := h.r _ r e
      rw [h2.none.mpr z] at hb; cases hb
  have hl := filter_len h2.nd hy
  refine ⟨h.ok.setG hk v, ⟨_, _, h1.putNew hx _, h2.drop _, by rw [List.length_append]; simp only [List.length_cons, List.length_nil]; omega⟩, h.g_put _ _, fun x r e => ?_, fun x e => ?_⟩
  · unfold Rn.del at e
    rw [valV_drop]
    by_cases z : x = nameK k
    · rw [if_pos z] at e; cases e
    · rw [if_neg z] at e; rw [if_neg (inr_ne z)]; exact h.r x r e
  · unfold Rn.del at e
    rw [valV_drop]
    by_cases z : x = nameK k
    · rw [if_pos (by rw [z])]
    · rw [if_neg z] at e; rw [if_neg (inr_ne z)]; exact h.rn x e
theorem Bld.r_put (h : Bld H kg kc n gv rc) (y : Str) {b : Addr} {r : R} (hb : IsR H b r) : (∀ x r', (rc.put y r) x = some r' → ∃ b', valV (putK kc (.inr y) (.ref b)) (.inr x) = some (.ref b') ∧ IsR H b' r') ∧ ∀ x, (rc.put y r) x = none → valV (putK kc (.inr y) (.ref b)) (.inr x) = none := by
  refine ⟨fun x r' e => ?_, fun x e => ?_⟩
  · rw [valV_put]
    unfold Rn.put at e
    by_cases z : x = y
    · rw [if_pos z] at e; cases e
      exact ⟨b, by rw [if_pos (by rw [z])], hb⟩
    · rw [if_neg z] at e
      rw [if_neg (inr_ne z)]; exact h.r x r' e
  · rw [valV_put]
    unfold Rn.put at e
    by_cases z : x = y
    · rw [if_pos z] at e; cases e
    · rw [if_neg z] at e
      rw [if_neg (inr_ne z)]; exact h.rn x e
theorem Bld.setR1 (h : Bld H kg kc n gv rc) {k : Nat} (hn : n ≤ 26) (hk : k < n) (h0 : 0 < k) (hr : rc (nameK k) ≠ none) {b : Addr} {r : R} (o : Rk3 (nmK k) 4 r) (hb : IsR H b r) : Bld H kg (putK kc (.inr (nameK k)) (.ref b)) n (gv.del (nameK k)) (rc.put (nameK k) r) := by
  obtain ⟨gs, cs, h1, h2, h3⟩ := h.k
  have hg : gv (nameK k) = none := by
    cases e : gv (nameK k) with
    | none => rfl
    | some u => exact absurd (h.ok.dj _ (by rw [e]; simp)) hr
  have hy : nameK k ∈ cs := by
    refine Decidable.byContradiction fun z => hr ?_
    cases e : rc (nameK k) with
    | none => rfl
    | some r =>
      obtain ⟨b, hb, _⟩ := h.r _ r e
      rw [h2.none.mpr z] at hb; cases hb
  refine ⟨h.ok.setR hn hk h0 o, ⟨gs, cs, h1, h2.putOld hy _, h3⟩, fun x => ?_, (h.r_put _ hb).1, (h.r_put _ hb).2⟩
  unfold Kn.del
  by_cases z : x = nameK k
  · rw [if_pos z, z, h.g, hg]
  · rw [if_neg z]; exact h.g x
theorem Bld.setR2 (h : Bld H kg kc n gv rc) {k : Nat} (hn : n ≤ 26) (hk : k < n) (h0 : 0 < k) (hr : rc (nameK k) = none) {b : Addr} {r : R} (o : Rk3 (nmK k) 4 r) (hb : IsR H b r) : Bld H (dropK kg (.inr (nameK k))) (putK kc (.inr (nameK k)) (.ref b)) n (gv.del (nameK k)) (rc.put (nameK k) r) := by
  obtain ⟨gs, cs, h1, h2, h3⟩ := h.k
  have hg : gv (nameK k) ≠ none := by
    rcases h.ok.dom k hk with z | z
    · exact z
    · exact absurd hr z
  have hx : nameK k ∈ gs := by
    refine Decidable.byContradiction fun z => hg ?_
    have := h1.none.mpr z
    rw [h.g] at this
    cases e : gv (nameK k) with
    | none => rfl
    | some u => rw [e] at this; cases this
  have hy : nameK k ∉ cs := h2.none.mp (h.rn _ hr)
  have hl := filter_len h1.nd hx
  refine ⟨h.ok.setR hn hk h0 o, ⟨_, _, h1.drop _, h2.putNew hy _, by rw [List.length_append]; simp only [List.length_cons, List.length_nil]; omega⟩, fun x => ?_, (h.r_put _ hb).1, (h.r_put _ hb).2⟩
  unfold Kn.del
  rw [valV_drop]
  by_cases z : x = nameK k
  · rw [if_pos (by rw [z]), if_pos z]; rfl
  · rw [if_neg (inr_ne z), if_neg z]; exact h.g x
end
noncomputable def sp3Ot (K : PySem.W.Frag) : Sp := fun vs H Q _ => ∃ (h g c a : Addr) (zs : List Int) (start most : Int) (n : Nat) (gv : Kn) (rc : Rn), vs = [.ref h, .ref a, .int start, .int most] ∧ HouseG H h g c n gv rc ∧ n ≤ 17 ∧ SqL K H a (zs.map V.int) ∧ 0 ≤ start ∧ start ≤ 50 ∧ 0 < most ∧ most ≤ 100 ∧
  ∀ h2 g2 c2 gv2 rc2 H', Same H H' → H h2 = none → H g2 = none → H c2 = none → HouseG H' h2 g2 c2 n gv2 rc2 → Q (.ref h2) H'
end RB

set_option maxRecDepth 100000
namespace RB
open PySem L2 PySem.Spec PyProof.Rows
/-! ### a recipe's worth, and the reads it took -/
structure GotR (r : R) (kn : Kn) (us : List Rdp) (v : Int) : Prop where
  c : Chn r kn us
  e : ev (kn.puts us) r = .inr v
theorem got_num {n : Int} {kn : Kn} : GotR (.num n) kn [] n := ⟨trivial, rfl⟩
theorem got_rd1 {kn : Kn} {x : Str} {v : Int} (h : kn x = some v) : GotR (.rd x) kn [] v := ⟨trivial, by show look kn x = _; unfold look; rw [h]⟩
theorem got_rd0 {kn : Kn} {x : Str} {v : Int} (h : kn x = none) : GotR (.rd x) kn [(x, v)] v := by
  refine ⟨⟨by show look kn x = _; unfold look; rw [h], trivial⟩, ?_⟩
  show look (kn.put x v) x = _
  unfold look Kn.put
  rw [if_pos rfl]
theorem got_bin {op : Op} {a b : R} {kn : Kn} {us vs : List Rdp} {u v : Int} (ha : GotR a kn us u) (hb : GotR b (kn.puts us) vs v) : GotR (.bin op a b) kn (us ++ vs) (op.ap u v) := by
  have ua : ∀ kn' x, ev kn' a = .inl x → ev kn' (.bin op a b) = .inl x := fun kn' x e => by simp only [ev]; rw [e]
  have ub : ∀ kn' x, Kn.Le (kn.puts us) kn' → ev kn' b = .inl x → ev kn' (.bin op a b) = .inl x := fun kn' x l e => by simp only [ev]; rw [ev_le l ha.e]; simp only; rw [e]
  exact ⟨(ha.c.up fun kn' x _ e => ua kn' x e).app (hb.c.up ub), by rw [Kn.puts_app]; simp only [ev]; rw [ev_le hb.c.le ha.e]; simp only; rw [hb.e]⟩
theorem got_pick {a b c : R} {kn : Kn} {us vs : List Rdp} {u v : Int} (ha : GotR a kn us u) (hb : GotR (if u > 0 then b else c) (kn.puts us) vs v) : GotR (.pick a b c) kn (us ++ vs) v := by
  have ua : ∀ kn' x, ev kn' a = .inl x → ev kn' (.pick a b c) = .inl x := fun kn' x e => by simp only [ev]; rw [e]
  have e : ∀ kn' : Kn, Kn.Le (kn.puts us) kn' → ev kn' (.pick a b c) = ev kn' (if u > 0 then b else c) := fun kn' l => by
    simp only [ev]; rw [ev_le l ha.e]; simp only; split <;> rfl
  exact ⟨(ha.c.up fun kn' x _ e => ua kn' x e).app (hb.c.up fun kn' x l z => by rw [e kn' l]; exact z), by rw [Kn.puts_app, e _ hb.c.le]; exact hb.e⟩
theorem got_cho {a : R} {ns : List Str} {x : Str} {kn : Kn} {us vs : List Rdp} {u v : Int} (ha : GotR a kn us u) (hx : pickN ns u = some x) (hb : GotR (.rd x) (kn.puts us) vs v) : GotR (.cho a ns) kn (us ++ vs) v := by
  have ua : ∀ kn' x, ev kn' a = .inl x → ev kn' (.cho a ns) = .inl x := fun kn' x e => by simp only [ev]; rw [e]
  have e : ∀ kn' : Kn, Kn.Le (kn.puts us) kn' → ev kn' (.cho a ns) = ev kn' (.rd x) := fun kn' l => by
    simp only [ev]; rw [ev_le l ha.e]; simp only; rw [hx]
  exact ⟨(ha.c.up fun kn' x _ e => ua kn' x e).app (hb.c.up fun kn' x l z => by rw [e kn' l]; exact z), by rw [Kn.puts_app, e _ hb.c.le]; exact hb.e⟩
/-! ### rows of reads that are known -/
theorem puts_mem {x : Str} {u : Int} : ∀ {ps : List Rdp} {kn : Kn}, kn.puts ps x = some u → (x, u) ∈ ps ∨ kn x = some u
  | [], kn, h => .inr h
  | p :: ps, kn, h => by
    rcases puts_mem (ps := ps) h with z | z
    · exact .inl (List.mem_cons_of_mem _ z)
    · unfold Kn.put at z
      by_cases e : x = p.1
      · rw [if_pos e] at z
        left
        have : p = (x, u) := by rw [e]; exact Prod.ext rfl (Option.some.inj z)
        rw [this]; simp
      · rw [if_neg e] at z; exact .inr z
theorem puts_not {x : Str} : ∀ {ps : List Rdp} {kn : Kn}, kn.puts ps x = none → x ∉ ps.map (·.1) ∧ kn x = none
  | [], kn, h => ⟨by simp, h⟩
  | p :: ps, kn, h => by
    obtain ⟨z1, z2⟩ := puts_not (ps := ps) h
    unfold Kn.put at z2
    by_cases e : x = p.1
    · rw [if_pos e] at z2; cases z2
    · rw [if_neg e] at z2
      exact ⟨by rw [List.map_cons, List.mem_cons]; exact fun w => w.elim e z1, z2⟩
structure Rows (kn : Kn) (ps : List Rdp) : Prop where
  s : ∀ p ∈ ps, kn p.1 = some p.2
  nd : (ps.map (·.1)).Nodup
theorem Rows.le {kn kn' : Kn} {ps : List Rdp} (h : Rows kn ps) (l : Kn.Le kn kn') : Rows kn' ps := ⟨fun p hp => l _ _ (h.s p hp), h.nd⟩
theorem nodup_len : ∀ {ws ns : List Str}, ws.Nodup → (∀ x ∈ ws, x ∈ ns) → ws.length ≤ ns.length
  | [], _, _, _ => Nat.zero_le _
  | w :: ws, ns, nd, h => by
    rw [List.nodup_cons] at nd
    have hw := h w (by simp)
    have ih := nodup_len (ws := ws) (ns := ns.erase w) nd.2 fun x hx => by
      have hne : x ≠ w := fun e => nd.1 (by rw [← e]; exact hx)
      exact (List.mem_erase_of_ne hne).mpr (h x (by simp [hx]))
    rw [List.length_erase_of_mem hw] at ih
    have := List.length_pos_of_mem hw
    simp only [List.length_cons]
    omega
/-- the look at a name whose worth is known -/
theorem Rows.look {kn : Kn} {ps : List Rdp} {x : Str} {v : Int} (h : Rows kn ps) (hx : kn x = some v) : if (x, v) ∈ ps then GotR (.rd x) (kn0.puts ps) [] v else GotR (.rd x) (kn0.puts ps) [(x, v)] v ∧ Rows kn (ps ++ [(x, v)]) := by
  by_cases hm : (x, v) ∈ ps
  · rw [if_pos hm]
    cases e : kn0.puts ps x with
    | none => exact absurd (List.mem_map.mpr ⟨_, hm, rfl⟩) (puts_not e).1
    | some u =>
      rcases puts_mem e with z | z
      · have := h.s _ z
        rw [hx] at this
        cases this
        exact got_rd1 e
      · cases z
  · rw [if_neg hm]
    have hn : kn0.puts ps x = none := by
      cases e : kn0.puts ps x with
      | none => rfl
      | some u =>
        rcases puts_mem e with z | z
        · have := h.s _ z
          rw [hx] at this
          cases this
          exact absurd z hm
        · cases z
    refine ⟨got_rd0 hn, fun p hp => ?_, ?_⟩
    · rcases List.mem_append.mp hp with z | z
      · exact h.s p z
      · have : p = (x, v) := by simpa using z
        rw [this]; exact hx
    · rw [List.map_append, List.nodup_append]
      exact ⟨h.nd, by simp, fun a ha b hb => by
        have : b = x := by simpa using hb
        rw [this]; exact fun z => (puts_not hn).1 (z ▸ ha)⟩
/-! ### the law's state -/
noncomputable abbrev Rm := Str → Option (R × List Rdp × Int)
noncomputable def Rm.put (rm : Rm) (x : Str) (q : R × List Rdp × Int) : Rm := fun y => if y = x then some q else rm y
noncomputable def RecA (X : List Addr) (H : Hp) (b : Addr) (q : R × List Rdp × Int) : Prop := ∃ br l as, H b = some (.tup [.ref br, .ref l, .int q.2.2]) ∧ IsR H br q.1 ∧ H l = some (.lst (as.map V.ref)) ∧ IsRds H as q.2.1 ∧ l ∉ X
structure StOk (n : Nat) (gv : Kn) (rc : Rn) (kn : Kn) (rm : Rm) : Prop where
  a : ∀ x v, kn x = some v → x ∈ nmK n ∧ (gv x = some v ∨ (gv x = none ∧ ∃ r ps, rc x = some r ∧ rm x = some (r, ps, v)))
  b : ∀ x r ps v, rm x = some (r, ps, v) → rc x = some r ∧ gv x = none ∧ kn x = some v ∧ GotR r kn0 ps v ∧ Rows kn ps
structure StA (X : List Addr) (H : Hp) (st wd rd : Addr) (n : Nat) (gv : Kn) (rc : Rn) (kn : Kn) (rm : Rm) : Prop where
  e : H st = some (.lst [.ref wd, .ref rd])
  ew : ∃ kw ws, H wd = some (.dK kw) ∧ Keys kw ws ∧ ∀ x, valV kw (.inr x) = (kn x).map V.int
  er : ∃ kr rs, H rd = some (.dK kr) ∧ Keys kr rs ∧ (∀ x q, rm x = some q → ∃ b, valV kr (.inr x) = some (.ref b) ∧ RecA X H b q) ∧ ∀ x, rm x = none → valV kr (.inr x) = none
  ne : wd ≠ rd
  ok : StOk n gv rc kn rm
section
variable {X : List Addr} {H H' : Hp} {st wd rd : Addr} {n : Nat} {gv : Kn} {rc : Rn} {kn : Kn} {rm : Rm}
theorem RecA.but {S : List Addr} {b : Addr} {q : R × List Rdp × Int} (h : RecA X H b q) (bt : But S H H') (tp : Tups H H') (hs : ∀ y ∈ S, y ∈ X ∨ ∀ xs, H y ≠ some (.lst xs)) : RecA X H' b q := by
  obtain ⟨br, l, as, e, r, el, rs, hx⟩ := h
  exact ⟨br, l, as, tp _ _ e, r.tups tp, bt _ _ (fun z => (hs l z).elim hx fun w => w _ el) el, rs.tups tp, hx⟩
theorem StA.kl (h : StA X H st wd rd n gv rc kn rm) {kw : List (Key × V)} (e : H wd = some (.dK kw)) : kw.length ≤ n := by
  obtain ⟨kw', ws, e', k, v⟩ := h.ew
  rw [e] at e'; cases e'
  rw [k.len, ← nmK_len n]
  refine nodup_len k.nd fun x hx => ?_
  cases z : kn x with
  | none => exact absurd hx (k.none.mp (by rw [v, z]; rfl))
  | some u => exact (h.ok.a x u z).1
theorem StA.rl (h : StA X H st wd rd n gv rc kn rm) {kr : List (Key × V)} (e : H rd = some (.dK kr)) : kr.length ≤ n := by
  obtain ⟨kr', rs, e', k, v, w⟩ := h.er
  rw [e] at e'; cases e'
  rw [k.len, ← nmK_len n]
  refine nodup_len k.nd fun x hx => ?_
  cases z : rm x with
  | none => exact absurd hx (k.none.mp (w x z))
  | some q =>
    obtain ⟨r, ps, v⟩ := q
    exact (h.ok.a x v (h.ok.b x r ps v z).2.2.1).1
theorem StA.tups (h : StA X H st wd rd n gv rc kn rm) {S : List Addr} (hS : ∀ y ∈ S, y = wd ∨ y = rd ∨ ∃ xs, H y = some (.lst xs)) (b : But S H H') : Tups H H' := fun p xs e => b p _ (fun z => by
  obtain ⟨kw, ws, e1, _⟩ := h.ew
  obtain ⟨kr, rs, e2, _⟩ := h.er
  rcases hS p z with z | z | ⟨ys, z⟩
  · rw [z, e1] at e; cases e
  · rw [z, e2] at e; cases e
  · rw [z] at e; cases e) e
theorem Rows.len {ps : List Rdp} (h : StA X H st wd rd n gv rc kn rm) (r : Rows kn ps) : ps.length ≤ n := by
  have := nodup_len r.nd (ns := nmK n) fun x hx => by
    obtain ⟨p, hp, rfl⟩ := List.mem_map.mp hx
    exact (h.ok.a _ _ (r.s p hp)).1
  rw [List.length_map, nmK_len] at this
  exact this
end
theorem HouseG.but {S : List Addr} {H H' : Hp} {h g c : Addr} {n : Nat} {gv : Kn} {rc : Rn} (a : HouseG H h g c n gv rc) (b : But S H H') (t : Tups H H') (hg : g ∉ S) (hc : c ∉ S) : HouseG H' h g c n gv rc := by
  obtain ⟨kg, kc, e, e1, e2, bd⟩ := a
  exact ⟨kg, kc, t _ _ e, b _ _ hg e1, b _ _ hc e2, bd.tups t⟩
/-- what the law's three ways to a worth share -/
structure Ctx (X : List Addr) (H : Hp) (h g c st wd rd : Addr) (n : Nat) (gv : Kn) (rc : Rn) (kn : Kn) (rm : Rm) : Prop where
  ho : HouseG H h g c n gv rc
  sa : StA X H st wd rd n gv rc kn rm
  n17 : n ≤ 17
  gw : g ≠ wd
  gr : g ≠ rd
  cw : c ≠ wd
  cr : c ≠ rd
  xs : ∀ y ∈ X, H y ≠ none
  st : st ∉ X
/-- newly known: names below m -/
noncomputable def New (kn kn' : Kn) (m : Nat) : Prop := Kn.Le kn kn' ∧ ∀ y, kn' y ≠ none → kn y ≠ none ∨ y ∈ nmK m
noncomputable def sp3Set (f : Nat) : Sp := fun vs H Q _ => ∃ (X : List Addr) (h g c st wd rd : Addr) (n : Nat) (gv : Kn) (rc : Rn) (kn : Kn) (rm : Rm) (k : Nat), vs = [.ref h, .str (nameK k), .ref st] ∧ Ctx X H h g c st wd rd n gv rc kn rm ∧ k < f ∧ k < n ∧
  ∀ kn' rm' v H', But [wd, rd] H H' → Ctx X H' h g c st wd rd n gv rc kn' rm' → New kn kn' (k + 1) → kn' (nameK k) = some v → Q (.int v) H'
noncomputable def sp3Lk (f : Nat) : Sp := fun vs H Q _ => ∃ (X : List Addr) (h g c st wd rd rl : Addr) (n : Nat) (gv : Kn) (rc : Rn) (kn : Kn) (rm : Rm) (as : List Addr) (ps : List Rdp) (k : Nat), vs = [.ref h, .str (nameK k), .ref st, .ref rl] ∧ Ctx X H h g c st wd rd n gv rc kn rm ∧ k < f ∧ k < n ∧
  H rl = some (.lst (as.map V.ref)) ∧ IsRds H as ps ∧ Rows kn ps ∧ rl ∈ X ∧ rl ≠ st ∧
  ∀ kn' rm' v us as' H', But [wd, rd, rl] H H' → Ctx X H' h g c st wd rd n gv rc kn' rm' → New kn kn' (k + 1) → H' rl = some (.lst (as'.map V.ref)) → IsRds H' as' (ps ++ us) → Rows kn' (ps ++ us) → GotR (.rd (nameK k)) (kn0.puts ps) us v → Q (.int v) H'
noncomputable def sp3Vl (f d : Nat) : Sp := fun vs H Q _ => ∃ (X : List Addr) (h g c st wd rd rl b : Addr) (n : Nat) (gv : Kn) (rc : Rn) (kn : Kn) (rm : Rm) (as : List Addr) (ps : List Rdp) (r : R) (m : Nat), vs = [.ref h, .ref b, .ref st, .ref rl] ∧ Ctx X H h g c st wd rd n gv rc kn rm ∧
  IsR H b r ∧ Rk3 (nmK m) d r ∧ m ≤ f ∧ m ≤ n ∧ H rl = some (.lst (as.map V.ref)) ∧ IsRds H as ps ∧ Rows kn ps ∧ rl ∈ X ∧ rl ≠ st ∧
  ∀ kn' rm' v us as' H', But [wd, rd, rl] H H' → Ctx X H' h g c st wd rd n gv rc kn' rm' → New kn kn' m → H' rl = some (.lst (as'.map V.ref)) → IsRds H' as' (ps ++ us) → Rows kn' (ps ++ us) → GotR r (kn0.puts ps) us v → Q (.int v) H'
end RB
namespace RB
open PySem L2 PySem.Spec PyProof.Rows
theorem Ctx.same {X : List Addr} {H H' : Hp} {h g c st wd rd : Addr} {n : Nat} {gv : Kn} {rc : Rn} {kn : Kn} {rm : Rm} (a : Ctx X H h g c st wd rd n gv rc kn rm) (s : Same H H') : Ctx X H' h g c st wd rd n gv rc kn rm := by
  obtain ⟨⟨kg, kc, e, e1, e2, bd⟩, ⟨e3, ⟨kw, ws, e4, k4, v4⟩, ⟨kr, rs, e5, k5, v5, w5⟩, ne, ok⟩, n17, gw, gr, cw, cr, xs, st'⟩ := a
  exact ⟨⟨kg, kc, s _ _ e, s _ _ e1, s _ _ e2, bd.tups (Same.tups s)⟩, ⟨s _ _ e3, ⟨kw, ws, s _ _ e4, k4, v4⟩, ⟨kr, rs, s _ _ e5, k5, fun x q z => let ⟨b, hb, ra⟩ := v5 x q z; ⟨b, hb, ra.but (S := []) (But.of_same s) (Same.tups s) (by simp)⟩, w5⟩, ne, ok⟩, n17, gw, gr, cw, cr, fun y hy z => xs y hy (same_none s z), st'⟩
/-- a row of reads (one of X) is changed -/
theorem Ctx.row {X : List Addr} {H : Hp} {h g c st wd rd rl : Addr} {n : Nat} {gv : Kn} {rc : Rn} {kn : Kn} {rm : Rm} (a : Ctx X H h g c st wd rd n gv rc kn rm) {xs : List V} (el : H rl = some (.lst xs)) (hX : rl ∈ X) (hst : rl ≠ st) (ys : List V) : Ctx X (upd H rl (.lst ys)) h g c st wd rd n gv rc kn rm := by
  have t : Tups H (upd H rl (.lst ys)) := fun y xs z => (upd_ne (fun w => by rw [w, el] at z; cases z)).trans z
  have hS : ∀ y ∈ [rl], y ∈ X ∨ ∀ xs, H y ≠ some (.lst xs) := fun y hy => .inl (by
    have : y = rl := by simpa using hy
    rw [this]; exact hX)
  have nd : ∀ d kvs, H d = some (.dK kvs) → d ≠ rl := fun d kvs e z => by rw [z, el] at e; cases e
  obtain ⟨⟨kg, kc, e, e1, e2, bd⟩, ⟨e3, ⟨kw, ws, e4, k4, v4⟩, ⟨kr, rs, e5, k5, v5, w5⟩, ne, ok⟩, n17, gw, gr, cw, cr, xs', st'⟩ := a
  exact ⟨⟨kg, kc, t _ _ e, (upd_ne (nd _ _ e1)).trans e1, (upd_ne (nd _ _ e2)).trans e2, bd.tups t⟩, ⟨(upd_ne (Ne.symm hst)).trans e3, ⟨kw, ws, (upd_ne (nd _ _ e4)).trans e4, k4, v4⟩, ⟨kr, rs, (upd_ne (nd _ _ e5)).trans e5, k5, fun x q z => let ⟨b, hb, ra⟩ := v5 x q z; ⟨b, hb, ra.but (S := [rl]) (But.set _ (by simp)) t hS⟩, w5⟩, ne, ok⟩, n17, gw, gr, cw, cr, fun y hy z => xs' y hy (upd_none z).2, st'⟩
end RB

set_option maxRecDepth 100000
namespace RB
open PySem L2 PySem.Spec PyProof.Rows
section
variable {X : List Addr} {H : Hp} {h g c st wd rd : Addr} {n : Nat} {gv : Kn} {rc : Rn} {kn : Kn} {rm : Rm}
theorem Ctx.less {rl : Addr} (a : Ctx (rl :: X) H h g c st wd rd n gv rc kn rm) : Ctx X H h g c st wd rd n gv rc kn rm := by
  obtain ⟨ho, ⟨e3, ew, ⟨kr, rs, e5, k5, v5, w5⟩, ne, ok⟩, n17, gw, gr, cw, cr, xs, st'⟩ := a
  exact ⟨ho, ⟨e3, ew, ⟨kr, rs, e5, k5, fun x q z => let ⟨b, hb, br, l, as, h1, h2, h3, h4, h5⟩ := v5 x q z; ⟨b, hb, br, l, as, h1, h2, h3, h4, fun m => h5 (List.mem_cons_of_mem _ m)⟩, w5⟩, ne, ok⟩, n17, gw, gr, cw, cr, fun y hy => xs y (List.mem_cons_of_mem _ hy), fun m => st' (List.mem_cons_of_mem _ m)⟩
theorem Ctx.more {rl : Addr} (a : Ctx X H h g c st wd rd n gv rc kn rm) (hn : H rl = none) (xs0 : List V) : Ctx (rl :: X) (upd H rl (.lst xs0)) h g c st wd rd n gv rc kn rm := by
  have s := same_new (.lst xs0) hn
  have nf : ∀ {l xs}, H l = some xs → l ≠ rl := fun e z => by rw [z, hn] at e; cases e
  obtain ⟨⟨kg, kc, e, e1, e2, bd⟩, ⟨e3, ⟨kw, ws, e4, k4, v4⟩, ⟨kr, rs, e5, k5, v5, w5⟩, ne, ok⟩, n17, gw, gr, cw, cr, xs, st'⟩ := a
  refine ⟨⟨kg, kc, s _ _ e, s _ _ e1, s _ _ e2, bd.tups (Same.tups s)⟩, ⟨s _ _ e3, ⟨kw, ws, s _ _ e4, k4, v4⟩, ⟨kr, rs, s _ _ e5, k5, fun x q z => ?_, w5⟩, ne, ok⟩, n17, gw, gr, cw, cr, fun y hy z => ?_, fun m => ?_⟩
  · obtain ⟨b, hb, br, l, as, h1, h2, h3, h4, h5⟩ := v5 x q z
    refine ⟨b, hb, br, l, as, s _ _ h1, h2.same s, s _ _ h3, h4.same s, fun m => ?_⟩
    rcases List.mem_cons.mp m with m | m
    · exact nf h3 m
    · exact h5 m
  · rcases List.mem_cons.mp hy with m | m
    · rw [m, upd_same] at z; cases z
    · exact xs y m (upd_none z).2
  · rcases List.mem_cons.mp m with m | m
    · exact nf e3 m
    · exact st' m
theorem StOk.putG {x : Str} {v : Int} (h : StOk n gv rc kn rm) (hx : x ∈ nmK n) (hk : kn x = none) (hg : gv x = some v) : StOk n gv rc (kn.put x v) rm := by
  refine ⟨fun y u e => ?_, fun y r ps u e => ?_⟩
  · unfold Kn.put at e
    by_cases z : y = x
    · rw [if_pos z] at e; cases e; rw [z]; exact ⟨hx, .inl hg⟩
    · rw [if_neg z] at e; exact h.a y u e
  · obtain ⟨h1, h2, h3, h4, h5⟩ := h.b y r ps u e
    exact ⟨h1, h2, Kn.le_put hk _ _ h3, h4, h5.le (Kn.le_put hk)⟩
theorem StOk.putR {x : Str} {r : R} {ps : List Rdp} {v : Int} (h : StOk n gv rc kn rm) (hx : x ∈ nmK n) (hk : kn x = none) (hg : gv x = none) (hr : rc x = some r) (got : GotR r kn0 ps v) (row : Rows kn ps) : StOk n gv rc (kn.put x v) (rm.put x (r, ps, v)) := by
  refine ⟨fun y u e => ?_, fun y r' ps' u e => ?_⟩
  · unfold Kn.put at e
    by_cases z : y = x
    · rw [if_pos z] at e; cases e
      refine ⟨by rw [z]; exact hx, .inr ⟨by rw [z]; exact hg, r, ps, by rw [z]; exact hr, ?_⟩⟩
      unfold Rm.put; rw [if_pos z]
    · rw [if_neg z] at e
      obtain ⟨h1, h2⟩ := h.a y u e
      refine ⟨h1, h2.elim .inl fun ⟨w0, r1, ps1, w1, w2⟩ => .inr ⟨w0, r1, ps1, w1, ?_⟩⟩
      unfold Rm.put; rw [if_neg z]; exact w2
  · unfold Rm.put at e
    by_cases z : y = x
    · rw [if_pos z] at e; cases e
      refine ⟨by rw [z]; exact hr, by rw [z]; exact hg, ?_, got, row.le (Kn.le_put hk)⟩
      unfold Kn.put; rw [if_pos z]
    · rw [if_neg z] at e
      obtain ⟨h1, h2, h3, h4, h5⟩ := h.b y r' ps' u e
      exact ⟨h1, h2, Kn.le_put hk _ _ h3, h4, h5.le (Kn.le_put hk)⟩
/-- a dict of the state is changed: nothing else -/
theorem tups_dk {d : Addr} {kvs : List (Key × V)} {o : HO} (e : H d = some (.dK kvs)) : Tups H (upd H d o) := fun y xs z => (upd_ne (fun w => by rw [w, e] at z; cases z)).trans z
theorem val_put {kw : List (Key × V)} (v4 : ∀ y, valV kw (.inr y) = (kn y).map V.int) (x : Str) (v : Int) : ∀ y, valV (putK kw (.inr x) (.int v)) (.inr y) = ((kn.put x v) y).map V.int := fun y => by
  rw [valV_put]
  unfold Kn.put
  by_cases z : y = x
  · rw [if_pos (by rw [z]), if_pos z]; rfl
  · rw [if_neg (inr_ne z), if_neg z]; exact v4 y
theorem RecA.dk {b : Addr} {q : R × List Rdp × Int} (r : RecA X H b q) {d : Addr} {kvs : List (Key × V)} {o : HO} (e : H d = some (.dK kvs)) : RecA X (upd H d o) b q := r.but (S := [d]) (But.set _ (by simp)) (tups_dk e) (fun y hy => .inr fun xs w => by
  have : y = d := by simpa using hy
  rw [this, e] at w; cases w)
theorem Ctx.putG {x : Str} {v : Int} {kw : List (Key × V)} (a : Ctx X H h g c st wd rd n gv rc kn rm) (ew : H wd = some (.dK kw)) (hx : x ∈ nmK n) (hk : kn x = none) (hg : gv x = some v) : Ctx X (upd H wd (.dK (putK kw (.inr x) (.int v)))) h g c st wd rd n gv rc (kn.put x v) rm := by
  have t := tups_dk (o := .dK (putK kw (.inr x) (.int v))) ew
  obtain ⟨⟨kg, kc, e, e1, e2, bd⟩, ⟨e3, ⟨kw', ws, e4, k4, v4⟩, ⟨kr, rs, e5, k5, v5, w5⟩, ne, ok⟩, n17, gw, gr, cw, cr, xs, st'⟩ := a
  rw [ew] at e4; cases e4
  have hst : st ≠ wd := fun z => by rw [z, ew] at e3; cases e3
  have hx' : x ∉ ws := k4.none.mp (by rw [v4, hk]; rfl)
  exact ⟨⟨kg, kc, t _ _ e, (upd_ne gw).trans e1, (upd_ne cw).trans e2, bd.tups t⟩, ⟨(upd_ne hst).trans e3, ⟨_, _, upd_same, k4.putNew hx' _, val_put v4 x v⟩, ⟨kr, rs, (upd_ne (Ne.symm ne)).trans e5, k5, fun y q z => let ⟨b, hb, ra⟩ := v5 y q z; ⟨b, hb, ra.dk ew⟩, w5⟩, ne, ok.putG hx hk hg⟩, n17, gw, gr, cw, cr, fun y hy z => xs y hy (upd_none z).2, st'⟩
theorem Ctx.putR {x : Str} {r : R} {ps : List Rdp} {v : Int} {kw kr : List (Key × V)} {b : Addr} (a : Ctx X H h g c st wd rd n gv rc kn rm) (ew : H wd = some (.dK kw)) (er : H rd = some (.dK kr)) (hx : x ∈ nmK n) (hk : kn x = none) (hg : gv x = none) (hr : rc x = some r) (got : GotR r kn0 ps v) (row : Rows kn ps) (ra : RecA X H b (r, ps, v)) :
    Ctx X (upd (upd H rd (.dK (putK kr (.inr x) (.ref b)))) wd (.dK (putK kw (.inr x) (.int v)))) h g c st wd rd n gv rc (kn.put x v) (rm.put x (r, ps, v)) := by
  have t1 := tups_dk (o := .dK (putK kr (.inr x) (.ref b))) er
  obtain ⟨⟨kg, kc, e, e1, e2, bd⟩, ⟨e3, ⟨kw', ws, e4, k4, v4⟩, ⟨kr', rs, e5, k5, v5, w5⟩, ne, ok⟩, n17, gw, gr, cw, cr, xs, st'⟩ := a
  rw [ew] at e4; cases e4
  rw [er] at e5; cases e5
  have ew1 : upd H rd (.dK (putK kr (.inr x) (.ref b))) wd = some (.dK kw) := (upd_ne ne).trans ew
  have t2 := tups_dk (o := .dK (putK kw (.inr x) (.int v))) ew1
  have hsw : st ≠ wd := fun z => by rw [z, ew] at e3; cases e3
  have hsr : st ≠ rd := fun z => by rw [z, er] at e3; cases e3
  have hx' : x ∉ ws := k4.none.mp (by rw [v4, hk]; rfl)
  have hrm : rm x = none := by
    cases z : rm x with
    | none => rfl
    | some q =>
      obtain ⟨r1, ps1, v1⟩ := q
      have := (ok.b x r1 ps1 v1 z).2.2.1
      rw [hk] at this; cases this
  have hxr : x ∉ rs := k5.none.mp (w5 x hrm)
  have up : ∀ {b q}, RecA X H b q → RecA X (upd (upd H rd (.dK (putK kr (.inr x) (.ref b)))) wd (.dK (putK kw (.inr x) (.int v)))) b q := fun z => (z.dk er).dk ((upd_ne ne).trans ew)
  refine ⟨⟨kg, kc, t2 _ _ (t1 _ _ e), (upd_ne gw).trans ((upd_ne gr).trans e1), (upd_ne cw).trans ((upd_ne cr).trans e2), (bd.tups t1).tups t2⟩, ⟨(upd_ne hsw).trans ((upd_ne hsr).trans e3), ⟨_, _, upd_same, k4.putNew hx' _, val_put v4 x v⟩, ⟨_, _, (upd_ne (Ne.symm ne)).trans upd_same, k5.putNew hxr _, fun y q z => ?_, fun y z => ?_⟩, ne, ok.putR hx hk hg hr got row⟩, n17, gw, gr, cw, cr, fun y hy z => xs y hy (upd_none (upd_none z).2).2, st'⟩
  · rw [valV_put]
    unfold Rm.put at z
    by_cases w : y = x
    · rw [if_pos w] at z; cases z
      exact ⟨b, by rw [if_pos (by rw [w])], (ra.dk er).dk ew1⟩
    · rw [if_neg w] at z
      obtain ⟨b', hb, ra'⟩ := v5 y q z
      exact ⟨b', by rw [if_neg (inr_ne w)]; exact hb, (ra'.dk er).dk ew1⟩
  · rw [valV_put]
    unfold Rm.put at z
    by_cases w : y = x
    · rw [if_pos w] at z; cases z
    · rw [if_neg w] at z
      rw [if_neg (inr_ne w)]; exact w5 y z
end
end RB
namespace RB
open PySem L2 PySem.Spec PyProof.Rows
noncomputable def sp3Fr : Sp := fun vs H Q _ => ∃ (h g c wl : Addr) (n : Nat) (gv : Kn) (rc : Rn) (ws : List Str), vs = [.ref h, .ref wl] ∧ HouseG H h g c n gv rc ∧ n ≤ 17 ∧ H wl = some (.lst (ws.map V.str)) ∧ (∀ x ∈ ws, x ∈ nmK n) ∧
  ∀ st wd rd kn rm H', Same H H' → H st = none → H wd = none → H rd = none → StA [] H' st wd rd n gv rc kn rm → (∀ x ∈ ws, kn x ≠ none) → Q (.ref st) H'
noncomputable def sp3Ws : Sp := fun vs H Q _ => ∃ (h g c p : Addr) (n cc : Nat) (gv : Kn) (rc : Rn), vs = [.ref h, .ref p] ∧ HouseG H h g c n gv rc ∧ 1 ≤ n ∧ n ≤ 17 ∧ PoolAt H p cc ∧ cc ≤ 50000 ∧ p ≠ g ∧ p ≠ c ∧
  ∀ (wl : Addr) (ws : List Str) (H' : Hp), But [p] H H' → H wl = none → H' wl = some (.lst (ws.map V.str)) → (∀ x ∈ ws, x ∈ nmK n) → Q (.ref wl) H'
end RB
namespace RB
open PySem L2 PySem.Spec PyProof.Rows
/-! ### records put by -/
theorem chn_in {r : R} {ns : List Str} (hi : r.In ns) : ∀ {ps : List Rdp} {kn : Kn}, Chn r kn ps → ∀ p ∈ ps, p.1 ∈ ns
  | [], _, _, p, hp => by cases hp
  | q :: ps, kn, c, p, hp => by
    rcases List.mem_cons.mp hp with z | z
    · rw [z]; exact ev_in hi c.1
    · exact chn_in hi (ps := ps) c.2 p z
noncomputable def RmOk (n : Nat) (rm : Rm) : Prop := ∀ x r ps v, rm x = some (r, ps, v) → GotR r kn0 ps v ∧ ∃ k, k < n ∧ x = nameK k ∧ Rk3 (nmK k) 4 r
structure RecD (H : Hp) (kr : List (Key × V)) (n : Nat) (rm : Rm) : Prop where
  k : ∃ rs, Keys kr rs ∧ ∀ x ∈ rs, x ∈ nmK n
  v : ∀ x q, rm x = some q → ∃ b, valV kr (.inr x) = some (.ref b) ∧ RecA [] H b q
  w : ∀ x, rm x = none → valV kr (.inr x) = none
  ok : RmOk n rm
theorem RecA.same {X : List Addr} {H H' : Hp} {b : Addr} {q : R × List Rdp × Int} (r : RecA X H b q) (s : Same H H') : RecA X H' b q := r.but (S := []) (But.of_same s) (Same.tups s) (by simp)
theorem RecD.map {H H' : Hp} {kr : List (Key × V)} {n : Nat} {rm : Rm} (h : RecD H kr n rm) (f : ∀ b q, RecA [] H b q → RecA [] H' b q) : RecD H' kr n rm := ⟨h.k, fun x q e => let ⟨b, h1, h2⟩ := h.v x q e; ⟨b, h1, f b q h2⟩, h.w, h.ok⟩
theorem RecD.len {H : Hp} {kr : List (Key × V)} {n : Nat} {rm : Rm} (h : RecD H kr n rm) : kr.length ≤ n := by
  obtain ⟨rs, k, hr⟩ := h.k
  rw [k.len, ← nmK_len n]
  exact nodup_len k.nd hr
theorem RecD.put {H : Hp} {kr : List (Key × V)} {n : Nat} {rm : Rm} (h : RecD H kr n rm) {x : Str} {q : R × List Rdp × Int} {b : Addr} (hx : x ∈ nmK n) (ra : RecA [] H b q) (hq : GotR q.1 kn0 q.2.1 q.2.2 ∧ ∃ k, k < n ∧ x = nameK k ∧ Rk3 (nmK k) 4 q.1) : RecD H (putK kr (.inr x) (.ref b)) n (rm.put x q) := by
  obtain ⟨rs, k, hr⟩ := h.k
  refine ⟨?_, fun y q' e => ?_, fun y e => ?_, fun y r ps v e => ?_⟩
  · by_cases hm : x ∈ rs
    · exact ⟨rs, k.putOld hm _, hr⟩
    · exact ⟨_, k.putNew hm _, fun y hy => by
        rcases List.mem_append.mp hy with z | z
        · exact hr y z
        · have : y = x := by simpa using z
          rw [this]; exact hx⟩
  · rw [valV_put]
    unfold Rm.put at e
    by_cases z : y = x
    · rw [if_pos z] at e; cases e
      exact ⟨b, by rw [if_pos (by rw [z])], ra⟩
    · rw [if_neg z] at e; rw [if_neg (inr_ne z)]; exact h.v y q' e
  · rw [valV_put]
    unfold Rm.put at e
    by_cases z : y = x
    · rw [if_pos z] at e; cases e
    · rw [if_neg z] at e; rw [if_neg (inr_ne z)]; exact h.w y e
  · unfold Rm.put at e
    by_cases z : y = x
    · rw [if_pos z] at e; cases e
      rw [z]; exact hq
    · rw [if_neg z] at e; exact h.ok y r ps v e
theorem StA.recD {X : List Addr} {H : Hp} {st wd rd : Addr} {n : Nat} {gv : Kn} {rc : Rn} {kn : Kn} {rm : Rm} (h : StA X H st wd rd n gv rc kn rm) (ho : HsOk n gv rc) : ∃ kr, H rd = some (.dK kr) ∧ RecD H kr n rm := by
  obtain ⟨kr, rs, e, k, v, w⟩ := h.er
  refine ⟨kr, e, ⟨rs, k, fun x hx => ?_⟩, fun x q z => let ⟨b, hb, br, l, as, h1, h2, h3, h4, _⟩ := v x q z; ⟨b, hb, br, l, as, h1, h2, h3, h4, by simp⟩, w, fun x r ps v z => ?_⟩
  · cases z : rm x with
    | none => exact absurd hx (k.none.mp (w x z))
    | some q =>
      obtain ⟨r, ps, v⟩ := q
      exact (h.ok.a x v (h.ok.b x r ps v z).2.2.1).1
  · obtain ⟨h1, h2, h3, h4, h5⟩ := h.ok.b x r ps v z
    exact ⟨h4, ho.rk x r h1⟩
noncomputable def sp3Ca (K : PySem.W.Frag) : Sp := fun vs H Q _ => ∃ (a : Addr) (zs : List Int), vs = [.ref a] ∧ SqL K H a (zs.map V.int) ∧
  ∀ (t h g c rcd wl : Addr) (n : Nat) (gv : Kn) (rc : Rn) (kr : List (Key × V)) (rm : Rm) (ws : List Str) (H' : Hp), Same H H' → H' t = some (.lst [.ref h, .ref rcd, .ref wl]) → HouseG H' h g c n gv rc → n ≤ 17 → H' rcd = some (.dK kr) → RecD H' kr n rm → H' wl = some (.lst (ws.map V.str)) → (∀ x ∈ ws, x ∈ nmK n) → Q (.ref t) H'
end RB
namespace RB
open PySem L2 PySem.Spec PyProof.Rows
theorem Keys.at {kvs : List (Key × V)} {ks : List Str} (h : Keys kvs ks) {i : Nat} {k : Key} {v : V} (e : kvs[i]? = some (k, v)) : ∃ x, k = .inr x ∧ ks[i]? = some x := by
  have h1 : (kvs.map (·.1))[i]? = some k := by rw [List.getElem?_map, e]; rfl
  rw [h.k, List.getElem?_map] at h1
  cases z : ks[i]? with
  | none => rw [z] at h1; cases h1
  | some x => rw [z] at h1; exact ⟨x, (Option.some.inj h1).symm, rfl⟩
end RB

set_option maxRecDepth 100000
namespace RB
open PySem L2 PySem.Spec PyProof.Rows
/-- reads up to the first changed one are read again -/
theorem again {r : R} {kn : Kn} {v : Int} : ∀ (k : Nat) {ps qs : List Rdp} {kn1 : Kn}, Chn r kn1 ps → Chn r kn1 qs → ev (kn1.puts qs) r = .inr v → (∀ q ∈ qs, kn q.1 = some q.2) → (∀ (j : Nat) p, j < k → ps[j]? = some p → kn p.1 = some p.2) → ∀ p, ps[k]? = some p → ∃ u, kn p.1 = some u
  | k, [], qs, kn1, cp, cq, e, hq, hj, p, hp => by simp at hp
  | k, q0 :: ps, [], kn1, cp, cq, e, hq, hj, p, hp => by
    have h1 := cp.1
    have e : ev kn1 r = .inr v := e
    rw [e] at h1; cases h1
  | 0, q0 :: ps, q :: qs, kn1, cp, cq, e, hq, hj, p, hp => by
    have : q0 = p := by simpa using hp
    subst this
    have h1 := cp.1
    rw [cq.1] at h1
    have : q.1 = q0.1 := Sum.inl.inj h1
    exact ⟨q.2, by rw [← this]; exact hq q (by simp)⟩
  | k + 1, q0 :: ps, q :: qs, kn1, cp, cq, e, hq, hj, p, hp => by
    have h1 := cp.1
    rw [cq.1] at h1
    have e1 : q.1 = q0.1 := Sum.inl.inj h1
    have h2 := hj 0 q0 (by omega) rfl
    have h3 := hq q (by simp)
    rw [e1, h2] at h3
    have e2 : q0.2 = q.2 := Option.some.inj h3
    have cq2 := cq.2
    have ee : ev ((kn1.put q.1 q.2).puts qs) r = .inr v := e
    rw [e1, ← e2] at cq2 ee
    exact again k cp.2 cq2 ee (fun y hy => hq y (by simp [hy])) (fun j p' hj' hp' => hj (j + 1) p' (by omega) (by simpa using hp')) p (by simpa using hp)
inductive Pap where
  | given | new | rcp (r s : R) | rd (k : Nat) (n m : Int) | alike
inductive PapAt (H : Hp) (b : Addr) : Pap → Prop where
  | given (e : H b = some (.tup [.str "given"])) : PapAt H b .given
  | new (e : H b = some (.tup [.str "new"])) : PapAt H b .new
  | rcp {r s : R} {p q : Addr} (e : H b = some (.tup [.str "recipe", .ref p, .ref q])) (hp : IsR H p r) (hq : IsR H q s) (gr : r.Good) (gs : s.Good) (dr : r.depth ≤ 8) (ds : s.depth ≤ 8) : PapAt H b (.rcp r s)
  | rd {k : Nat} {n m : Int} (e : H b = some (.tup [.str "read", .int k, .int n, .int m])) : PapAt H b (.rd k n m)
  | alike (e : H b = some (.tup [.str "alike"])) : PapAt H b .alike
theorem PapAt.tups {H H' : Hp} {b : Addr} {p : Pap} (h : PapAt H b p) (t : Tups H H') : PapAt H' b p := by
  cases h with
  | given e => exact .given (t _ _ e)
  | new e => exact .new (t _ _ e)
  | rcp e hp hq a b c d => exact .rcp (t _ _ e) (hp.tups t) (hq.tups t) a b c d
  | rd e => exact .rd (t _ _ e)
  | alike e => exact .alike (t _ _ e)
end RB
namespace RB
open PySem L2 PySem.Spec PyProof.Rows
theorem chn_nodup {r : R} : ∀ {ps : List Rdp} {kn : Kn}, Chn r kn ps → (∀ p ∈ ps, kn p.1 = none) ∧ (ps.map (·.1)).Nodup
  | [], _, _ => ⟨by simp, by simp⟩
  | q :: ps, kn, c => by
    obtain ⟨h1, h2⟩ := chn_nodup (ps := ps) c.2
    have h0 := ev_none c.1
    have h3 : ∀ p ∈ ps, p.1 ≠ q.1 ∧ kn p.1 = none := fun p hp => by
      have := h1 p hp
      unfold Kn.put at this
      by_cases z : p.1 = q.1
      · rw [if_pos z] at this; cases this
      · rw [if_neg z] at this; exact ⟨z, this⟩
    refine ⟨fun p hp => ?_, ?_⟩
    · rcases List.mem_cons.mp hp with z | z
      · rw [z]; exact h0
      · exact (h3 p z).2
    · rw [List.map_cons, List.nodup_cons]
      refine ⟨fun hm => ?_, h2⟩
      obtain ⟨p, hp, e⟩ := List.mem_map.mp hm
      exact (h3 p hp).1 e
theorem chn_len {r : R} {ps : List Rdp} {kn : Kn} {k : Nat} (c : Chn r kn ps) (hi : r.In (nmK k)) : ps.length ≤ k := by
  have := nodup_len (chn_nodup c).2 (ns := nmK k) fun x hx => by
    obtain ⟨p, hp, rfl⟩ := List.mem_map.mp hx
    exact chn_in hi c p hp
  rwa [List.length_map, nmK_len] at this
end RB

set_option maxRecDepth 100000
namespace RB
open PySem L2 PySem.Spec PyProof.Rows
theorem Rd.same {H H' : Hp} {a : Addr} {u : HO} (r : Rd H a u) (s : Same H H') : Rd H' a u := by
  rcases r with r | ⟨o, r⟩
  · exact .inl (s _ _ r)
  · exact .inr ⟨o, s _ _ r⟩
end RB

set_option maxRecDepth 100000
namespace RB
open PySem L2 PySem.Spec PyProof.Rows
/-- what stands in a dict is what it gives -/
theorem valV_mem {kvs : List (Key × V)} {ks : List Str} (h : Keys kvs ks) {k : Key} {v : V} (m : (k, v) ∈ kvs) : valV kvs k = some v := by
  obtain ⟨i, hi⟩ := List.getElem?_of_mem m
  have nd : (kvs.map (·.1)).Nodup := by
    rw [h.k]
    exact List.Pairwise.map _ (fun a b (e : a ≠ b) (z : (Sum.inr a : Key) = Sum.inr b) => e (Sum.inr.inj z)) h.nd
  clear h
  induction kvs generalizing i with
  | nil => cases m
  | cons q r ih =>
    rw [List.map_cons, List.nodup_cons] at nd
    rcases List.mem_cons.mp m with z | z
    · rw [← z]; exact valV_pos rfl
    · have hne : ¬ q.1 = k := fun w => nd.1 (by rw [w]; exact List.mem_map.mpr ⟨_, z, rfl⟩)
      rw [valV_neg hne]
      obtain ⟨j, hj⟩ := List.getElem?_of_mem z
      exact ih z j hj nd.2
theorem RecD.plain {H : Hp} {kr : List (Key × V)} {n : Nat} {rm : Rm} (h : RecD H kr n rm) : ∀ q ∈ kr, plainV q.2 = true := fun q hq => by
  obtain ⟨ks, k, hk⟩ := h.k
  obtain ⟨i, hi⟩ := List.getElem?_of_mem hq
  obtain ⟨x, ex, _⟩ := k.at (k := q.1) (v := q.2) hi
  have hv := valV_mem k (k := q.1) (v := q.2) hq
  rw [ex] at hv
  cases e : rm x with
  | none => rw [h.w x e] at hv; cases hv
  | some bp =>
    obtain ⟨b, hb, _⟩ := h.v x bp e
    rw [hb] at hv
    rw [← Option.some.inj hv]; rfl
end RB

set_option maxRecDepth 100000
--BEGIN
namespace L2
open PySem PySem.Spec PyProof.Rows
/-! ### zip of two tuples -/
section
variable {prog : Program} {w : World} {A : Around} {E : Value → Shared → Prop} {s : Shared}
theorem tnx_got {j t : Addr} {k : Nat} {vs : Array Value} {v : Value} {Q : Value → Shared → Prop} (hj : IsTupIter s.heap j t k) (ht : IsTup s.heap t vs) (hv : vs[k]? = some v)
    (q : ∀ g, IsTupIter g j t (k + 1) → Heap.SameBut j s.heap g → Q v { s with heap := g }) : wpAny (model prog w) A (Builtin.SmallTypes.nextOf (.ref j)) Q E s := by
  have ty := hj.typeIs
  obtain ⟨oj, ej, cj, dj⟩ := hj
  obtain ⟨ot, et, _, nt, dt⟩ := ht
  unfold Builtin.SmallTypes.nextOf
  refine wpAny_bind (wpAny_callSpecial?_slot (name := Str.ofString "__next__") ty slot_tupleiter_next (wpAny_call_entry slot_tupleiter_next ty entry_tupleiter_next ?_ (args_tupleiter_next _)))
  show wpAny _ _ (field (.ref j) 0 >>= _) _ _ s
  refine wpAny_bind (wpAny_field ej dj (x := .ref t) rfl ?_)
  show wpAny _ _ (if (Value.ref t == Value.none) = true then _ else _) _ _ _
  rw [if_neg (by intro z; cases z)]
  show wpAny _ _ (field (.ref j) 1 >>= _) _ _ s
  refine wpAny_bind (wpAny_field ej dj (x := .int k 0) rfl ?_)
  show wpAny _ _ (seqItems? (.ref t) >>= _) _ _ _
  refine wpAny_bind (wpAny_seqItems et dt ?_)
  simp only [hv, Int.toNat_natCast]
  refine wpAny_bind (wpAny_setField ej dj (by simp) (wpAny_pure ⟨v, rfl, wpAny_pure (q _ ?_ (Heap.SameBut.update ..))⟩))
  refine ⟨_, Heap.get?_update_self _ ej (Obj.isFreed_of_fields (Obj.data_mapFields dj _)), (Obj.cls_mapFields ..).trans cj, ?_⟩
  rw [Obj.data_mapFields dj]; simp [rawInt]
theorem tnx_out {j t : Addr} {k : Nat} {vs : Array Value} {Q : Value → Shared → Prop} (hA : A.handled = none) (hj : IsTupIter s.heap j t k) (ht : IsTup s.heap t vs) (hv : vs[k]? = none)
    (q : ∀ g b, Heap.ExtBut j s.heap g → (∃ ob, g.get? b = some ob ∧ ob.cls = .type "StopIteration") → E (.ref b) { s with heap := g }) : wpAny (model prog w) A (Builtin.SmallTypes.nextOf (.ref j)) Q E s := by
  have ty := hj.typeIs
  obtain ⟨oj, ej, cj, dj⟩ := hj
  obtain ⟨ot, et, _, nt, dt⟩ := ht
  unfold Builtin.SmallTypes.nextOf
  refine wpAny_bind (wpAny_callSpecial?_slot (name := Str.ofString "__next__") ty slot_tupleiter_next (wpAny_call_entry slot_tupleiter_next ty entry_tupleiter_next ?_ (args_tupleiter_next _)))
  show wpAny _ _ (field (.ref j) 0 >>= _) _ _ s
  refine wpAny_bind (wpAny_field ej dj (x := .ref t) rfl ?_)
  show wpAny _ _ (if (Value.ref t == Value.none) = true then _ else _) _ _ _
  rw [if_neg (by intro z; cases z)]
  show wpAny _ _ (field (.ref j) 1 >>= _) _ _ s
  refine wpAny_bind (wpAny_field ej dj (x := .int k 0) rfl ?_)
  show wpAny _ _ (seqItems? (.ref t) >>= _) _ _ _
  refine wpAny_bind (wpAny_seqItems et dt ?_)
  simp only [hv, Int.toNat_natCast]
  refine wpAny_bind (wpAny_rule (wpAny_bind (wpAny_setField ej dj (by simp) ?_)))
  show wpAny _ _ (newExc (.type "StopIteration") [] >>= _) _ _ _
  refine wpAny_bind ?_
  simp only [newTuple, newExc]
  refine wpAny_bind (wpAny_newObj_type ?_ (by size_fits))
  refine wpAny_bind (m := firstArgMember _ _) (wpAny_of_eq (a := Value.none) (by first | rfl | (unfold firstArgMember; rfl)) ?_)
  refine wpAny_newObj_type ?_ (by size_fits)
  simp only [raiseNew]
  refine wpAny_bind (wpAny_handled ?_)
  first | rw [hA] | rw [show A.in1.handled = none from hA]
  exact wpAny_bind (wpAny_pure (wpAny_throw (q _ _ (((Heap.SameBut.update ..).extBut.push _).push _) ⟨_, Heap.get?_push_size _ rfl, rfl⟩)))
theorem tzip_got {z TI TO i j a b : Addr} {k : Nat} {xs ys : Array Value} {x y p q : Value} {Q : Value → Shared → Prop} (D : ZipApart z TI TO i j a b)
    (ez : IsZip s.heap z TI TO .none) (eI : IsPair s.heap TI (.ref i) (.ref j)) (eO : IsPair s.heap TO p q) (ei : IsTupIter s.heap i a k) (ej : IsTupIter s.heap j b k) (ea : IsTup s.heap a xs) (eb : IsTup s.heap b ys)
    (hx : xs[k]? = some x) (hy : ys[k]? = some y)
    (r : ∀ g, IsZip g z TI TO (rawInt s.heap.objs.size) → IsPair g TO x y → IsTupIter g i a (k + 1) → IsTupIter g j b (k + 1) → IsPair g s.heap.objs.size x y → g.objs.size = s.heap.objs.size + 1 →
      (∀ c o, c ∉ [z, TO, i, j] → s.heap.get? c = some o → g.get? c = some o) → Q (.ref s.heap.objs.size) { s with heap := g }) :
    wpAny (model prog w) A (Builtin.«zip.__next__» ⟨[.ref z], []⟩) (fun f s' => ∃ v, f = .done (.ret v) ∧ Q v s') E s := by
  show wpAny _ _ (field (.ref z) 2 >>= _) _ _ s
  refine wpAny_bind (wpAny_field ez rfl (x := .bool false) rfl ?_)
  show wpAny _ _ (field (.ref z) 3 >>= _) _ _ s
  refine wpAny_bind (wpAny_field ez rfl (x := .ref TI) rfl (wpAny_bind (wpAny_seqItems eI rfl ?_)))
  show wpAny _ _ (Builtin.SmallTypes.ownedTupleIsFree (.ref z) >>= _) _ _ s
  refine wpAny_bind ?_
  unfold Builtin.SmallTypes.ownedTupleIsFree; refine wpAny_bind (wpAny_field ez rfl (x := .none) rfl (wpAny_pure ?_))
  simp only [if_true]
  refine wpAny_bind (wpAny_rule (wpAny_bind (wpAny_field ez rfl (x := .ref TO) rfl (wpAny_bind (wpAny_setField_rec ez (by simp) fun g1 z1 b1 => ?_)))))
  have z1' : IsZip g1 z TI TO .ellipsis := z1
  refine wpAny_bind ?_
  simp only [List.forIn_cons, List.forIn_nil, List.zipIdx_cons, List.zipIdx_nil]
  refine wpAny_bind (wpAny_bind (wpAny_onRaise ?_))
  show wpAny _ _ (Builtin.SmallTypes.nextOf (.ref i) >>= _) _ _ _
  refine wpAny_bind (tnx_got (ei.extBut b1.extBut D.i1z) (ea.extBut b1.extBut D.l1z) hx fun g2 i2 b2 => wpAny_pure ?_)
  have o2 : IsPair g2 TO p q := b2.extBut _ _ D.TOi1 (b1.extBut _ _ D.TOz eO)
  refine wpAny_bind (wpAny_seqItems o2 rfl (wpAny_bind (wpAny_updateSeq_pair o2 fun g3 o3 b3 => ?_)))
  have o3' : IsPair g3 TO x q := o3
  refine wpAny_bind (wpAny_letGo (wpAny_pure (wpAny_bind (wpAny_bind (wpAny_onRaise ?_)))))
  show wpAny _ _ (Builtin.SmallTypes.nextOf (.ref j) >>= _) _ _ _
  refine wpAny_bind (tnx_got (((ej.extBut b1.extBut D.i2z).extBut b2.extBut D.i12.symm).extBut b3.extBut D.TOi2.symm) (((eb.extBut b1.extBut D.l2z).extBut b2.extBut D.l2i1).extBut b3.extBut D.l2TO) hy fun g4 j4 b4 => wpAny_pure ?_)
  have o4 : IsPair g4 TO x q := b4.extBut _ _ D.TOi2 o3'
  refine wpAny_bind (wpAny_seqItems o4 rfl (wpAny_bind (wpAny_updateSeq_pair o4 fun g5 o5 b5 => ?_)))
  have o5' : IsPair g5 TO x y := o5
  refine wpAny_bind (wpAny_letGo (wpAny_pure (wpAny_pure (wpAny_bind (wpAny_seqItems o5' rfl (wpAny_bind (wpAny_newTuple ?_)))))))
  have sz : g5.objs.size = s.heap.objs.size := by rw [b5.1, b4.1, b3.1, b2.1, b1.1]
  have z5 : IsZip g5 z TI TO .ellipsis := b5.extBut _ _ D.TOz.symm (b4.extBut _ _ D.i2z.symm (b3.extBut _ _ D.TOz.symm (b2.extBut _ _ D.i1z.symm z1')))
  have k5 : ∀ c o, c ∉ [z, TO, i, j] → s.heap.get? c = some o → g5.get? c = some o := fun c o hc e => by
    simp only [List.mem_cons, List.not_mem_nil, or_false, not_or] at hc
    exact b5.extBut _ _ hc.2.1 (b4.extBut _ _ hc.2.2.2 (b3.extBut _ _ hc.2.1 (b2.extBut _ _ hc.2.2.1 (b1.extBut _ _ hc.1 e))))
  have i5 : IsTupIter g5 i a (k + 1) := ((i2.extBut b3.extBut D.TOi1.symm).extBut b4.extBut D.i12).extBut b5.extBut D.TOi1.symm
  have j5 : IsTupIter g5 j b (k + 1) := j4.extBut b5.extBut D.TOi2.symm
  have lz : g5.objs.size ≠ z := Nat.ne_of_gt (Heap.lt_size z5)
  show wpAny _ _ (Builtin.SmallTypes.ownedTupleHandOut (.ref z) (.ref g5.objs.size) >>= _) _ _ _
  refine wpAny_bind ?_
  unfold Builtin.SmallTypes.ownedTupleHandOut; refine wpAny_bind (wpAny_setField_rec (Heap.get?_push_of_some _ z5) (by simp) fun g7 z7 b7 => ?_)
  have z7' : IsZip g7 z TI TO (rawInt g5.objs.size) := z7
  refine wpAny_setField_rec z7' (by simp) fun g8 z8 b8 => ?_
  have z8' : IsZip g8 z TI TO (rawInt g5.objs.size) := z8
  have up : ∀ c o, c ≠ z → g5.get? c = some o → g8.get? c = some o := fun c o hc e => b8.extBut _ _ hc (b7.extBut _ _ hc (Heap.get?_push_of_some _ e))
  have t8 : IsPair g8 g5.objs.size x y := b8.extBut _ _ lz (b7.extBut _ _ lz (Heap.get?_push_size _ rfl))
  have s8 : g8.objs.size = g5.objs.size + 1 := by rw [b8.1, b7.1, Heap.size_push]
  rw [sz] at z8' t8 s8
  refine wpAny_pure ⟨_, rfl, ?_⟩
  show Q (.ref g5.objs.size) _
  rw [sz]
  obtain ⟨oi, qi, ri⟩ := i5
  obtain ⟨oj, qj, rj⟩ := j5
  exact r g8 z8' (up _ _ D.TOz o5') ⟨oi, up _ _ D.i1z qi, ri⟩ ⟨oj, up _ _ D.i2z qj, rj⟩ t8 s8 fun c o hc e => up c o (fun h => hc (by simp [h])) (k5 c o hc e)
theorem tzip_out {z TI TO i j a b : Addr} {k : Nat} {xs ys : Array Value} {p q : Value} {Q : Fin → Shared → Prop} (hA : A.handled = none) (D : ZipApart z TI TO i j a b)
    (ez : IsZip s.heap z TI TO .none) (eI : IsPair s.heap TI (.ref i) (.ref j)) (eO : IsPair s.heap TO p q) (ei : IsTupIter s.heap i a k) (ej : IsTupIter s.heap j b k) (ea : IsTup s.heap a xs) (eb : IsTup s.heap b ys)
    (hend : xs[k]? = none ∨ ys[k]? = none)
    (r : ∀ g u, (∀ c o, c ∉ [z, TO, i, j] → s.heap.get? c = some o → g.get? c = some o) → (∃ o, g.get? u = some o ∧ o.cls = .type "StopIteration") → E (.ref u) { s with heap := g }) :
    wpAny (model prog w) A (Builtin.«zip.__next__» ⟨[.ref z], []⟩) Q E s := by
  show wpAny _ _ (field (.ref z) 2 >>= _) _ _ s
  refine wpAny_bind (wpAny_field ez rfl (x := .bool false) rfl ?_)
  show wpAny _ _ (field (.ref z) 3 >>= _) _ _ s
  refine wpAny_bind (wpAny_field ez rfl (x := .ref TI) rfl (wpAny_bind (wpAny_seqItems eI rfl ?_)))
  show wpAny _ _ (Builtin.SmallTypes.ownedTupleIsFree (.ref z) >>= _) _ _ s
  refine wpAny_bind ?_
  unfold Builtin.SmallTypes.ownedTupleIsFree; refine wpAny_bind (wpAny_field ez rfl (x := .none) rfl (wpAny_pure ?_))
  simp only [if_true]
  refine wpAny_bind (wpAny_rule (wpAny_bind (wpAny_field ez rfl (x := .ref TO) rfl (wpAny_bind (wpAny_setField_rec ez (by simp) fun g1 z1 b1 => ?_)))))
  have z1' : IsZip g1 z TI TO .ellipsis := z1
  refine wpAny_bind ?_
  simp only [List.forIn_cons, List.forIn_nil, List.zipIdx_cons, List.zipIdx_nil]
  refine wpAny_bind (wpAny_bind (wpAny_onRaise ?_))
  show wpAny _ _ (Builtin.SmallTypes.nextOf (.ref i) >>= _) _ _ _
  have nz : ∀ {g : Heap} {u o}, IsZip g z TI TO .ellipsis → g.get? u = some o → o.cls = .type "StopIteration" → u ≠ z := fun hz hu hc h => by subst h; rw [hz] at hu; cases hu; simp at hc
  cases hx : xs[k]? with
  | none =>
    refine wpAny_bind (tnx_out hA (ei.extBut b1.extBut D.i1z) (ea.extBut b1.extBut D.l1z) hx fun g2 u b2 ⟨ou, hou, hcu⟩ => ?_)
    have z2 : IsZip g2 z TI TO .ellipsis := b2 _ _ D.i1z.symm z1'
    refine wpAny_setField_rec z2 (by simp) fun g3 _ b3 => r g3 u (fun c o hc e => ?_) ⟨ou, b3.extBut _ _ (nz z2 hou hcu) hou, hcu⟩
    simp only [List.mem_cons, List.not_mem_nil, or_false, not_or] at hc
    exact b3.extBut _ _ hc.1 (b2 _ _ hc.2.2.1 (b1.extBut _ _ hc.1 e))
  | some x =>
    have hy : ys[k]? = none := by rcases hend with h | h; exact absurd (hx.symm.trans h) (by simp); exact h
    refine wpAny_bind (tnx_got (ei.extBut b1.extBut D.i1z) (ea.extBut b1.extBut D.l1z) hx fun g2 i2 b2 => wpAny_pure ?_)
    have o2 : IsPair g2 TO p q := b2.extBut _ _ D.TOi1 (b1.extBut _ _ D.TOz eO)
    refine wpAny_bind (wpAny_seqItems o2 rfl (wpAny_bind (wpAny_updateSeq_pair o2 fun g3 o3 b3 => ?_)))
    refine wpAny_bind (wpAny_letGo (wpAny_pure (wpAny_bind (wpAny_bind (wpAny_onRaise ?_)))))
    show wpAny _ _ (Builtin.SmallTypes.nextOf (.ref j) >>= _) _ _ _
    refine wpAny_bind (tnx_out hA (((ej.extBut b1.extBut D.i2z).extBut b2.extBut D.i12.symm).extBut b3.extBut D.TOi2.symm) (((eb.extBut b1.extBut D.l2z).extBut b2.extBut D.l2i1).extBut b3.extBut D.l2TO) hy fun g4 u b4 ⟨ou, hou, hcu⟩ => ?_)
    have z4 : IsZip g4 z TI TO .ellipsis := b4 _ _ D.i2z.symm (b3.extBut _ _ D.TOz.symm (b2.extBut _ _ D.i1z.symm z1'))
    refine wpAny_setField_rec z4 (by simp) fun g5 _ b5 => r g5 u (fun c o hc e => ?_) ⟨ou, b5.extBut _ _ (nz z4 hou hcu) hou, hcu⟩
    simp only [List.mem_cons, List.not_mem_nil, or_false, not_or] at hc
    exact b5.extBut _ _ hc.1 (b4 _ _ hc.2.2.2 (b3.extBut _ _ hc.2.1 (b2.extBut _ _ hc.2.2.1 (b1.extBut _ _ hc.1 e))))
end
end L2
--END

set_option maxRecDepth 100000
--BEGIN
namespace L2
open PySem PySem.Spec PyProof.Rows
noncomputable abbrev tzA (g : Heap) (a : Addr) : Heap := g.push { cls := .type "tuple_iterator", data := .fields #[.ref a, .int 0 0] }
noncomputable abbrev tzB (g : Heap) (a b : Addr) : Heap := (tzA g a).push { cls := .type "tuple_iterator", data := .fields #[.ref b, .int 0 0] }
noncomputable abbrev tzC (g : Heap) (a b : Addr) : Heap := (tzB g a b).push { cls := .type "tuple", data := .seq #[.ref g.objs.size, .ref (tzA g a).objs.size] }
noncomputable abbrev tzD (g : Heap) (a b : Addr) : Heap := (tzC g a b).push { cls := .type "tuple", data := .seq #[.none, .none] }
noncomputable abbrev tzE (g : Heap) (a b : Addr) : Heap := (tzD g a b).push { cls := .type "zip", data := .fields #[.none, .bool false, .bool false, .ref (tzB g a b).objs.size, .ref (tzC g a b).objs.size] }
theorem tz_meets (a b : Addr) (xs ys : Array Value) :
    Meets (Builtin.«zip.__new__» ⟨[.type "zip", .ref a, .ref b], []⟩) (fun _ R s => IsTup s.heap a xs ∧ IsTup s.heap b ys ∧
      R (.ok (.ret (.ref (tzD s.heap a b).objs.size))) { s with heap := tzE s.heap a b }) :=
  .of_wp fun prog w A R s h => by
    obtain ⟨hp, g, d, tk, os⟩ := s; obtain ⟨ha, hb, h⟩ := h
    have hsub := sub_zip
    have h1 : IsTup (Shared.heap ⟨hp, g, d, tk, os⟩) a xs := ha
    have h2 : IsTup (Shared.heap ⟨hp.push { cls := .type "tuple_iterator", data := .fields #[.ref a, .int 0 0] }, g, d, tk, os⟩) b ys := hb.push _
    wp_walk using iter_tuple h1, iter_tuple h2
    exact ⟨_, rfl, h⟩
section
variable {prog : Program} {w : World} {A : Around} {E : Value → Shared → Prop} {s : Shared}
theorem tz_call {a b : Addr} {xs ys : Array Value} {Q : Value → Shared → Prop} (ha : IsTup s.heap a xs) (hb : IsTup s.heap b ys)
    (q : ∀ g n, n = s.heap.objs.size → IsZip g (n + 4) (n + 2) (n + 3) .none → IsPair g (n + 2) (.ref n) (.ref (n + 1)) →
      IsPair g (n + 3) .none .none → IsTupIter g n a 0 → IsTupIter g (n + 1) b 0 →
      (∀ c o, s.heap.get? c = some o → g.get? c = some o) → Q (.ref (n + 4)) { s with heap := g }) :
    wpAny (model prog w) A (call (.type "zip") [.ref a, .ref b]) Q E s := by
  refine callType_new F.called_zip (by decide) (F.typeCall_zip_2 _ _) (F.newCall_zip_2 _ _) (fun obj => F.args_object_init_3 obj _ _) F.entry_zip_new
    (tz_meets a b xs ys) ⟨ha, hb, ?_⟩
  have n1 : (tzA s.heap a).objs.size = s.heap.objs.size + 1 := Heap.size_push ..
  have n2 : (tzB s.heap a b).objs.size = s.heap.objs.size + 2 := by rw [Heap.size_push, n1]
  have n3 : (tzC s.heap a b).objs.size = s.heap.objs.size + 3 := by rw [Heap.size_push, n2]
  have n4 : (tzD s.heap a b).objs.size = s.heap.objs.size + 4 := by rw [Heap.size_push, n3]
  have e5 : (tzE s.heap a b).get? (tzD s.heap a b).objs.size = some _ := Heap.get?_push_size _ rfl
  have e4 : (tzE s.heap a b).get? (tzC s.heap a b).objs.size = some _ := Heap.get?_push_of_some _ (Heap.get?_push_size _ rfl)
  have e3 : (tzE s.heap a b).get? (tzB s.heap a b).objs.size = some _ := Heap.get?_push_of_some _ (Heap.get?_push_of_some _ (Heap.get?_push_size _ rfl))
  have e2 : (tzE s.heap a b).get? (tzA s.heap a).objs.size = some _ := Heap.get?_push_of_some _ (Heap.get?_push_of_some _ (Heap.get?_push_of_some _ (Heap.get?_push_size _ rfl)))
  have e1 : (tzE s.heap a b).get? s.heap.objs.size = some _ := Heap.get?_push_of_some _ (Heap.get?_push_of_some _ (Heap.get?_push_of_some _ (Heap.get?_push_of_some _ (Heap.get?_push_size _ rfl))))
  show _ ∧ _
  rw [n2, n3, n4] at e5
  rw [n3] at e4
  rw [n1, n2] at e3
  rw [n1] at e2
  rw [n4]
  exact ⟨⟨_, e5, rfl⟩, q _ _ rfl e5 e3 e4 ⟨_, e1, rfl, rfl⟩ ⟨_, e2, rfl, rfl⟩ fun c o x =>
    Heap.get?_push_of_some _ (Heap.get?_push_of_some _ (Heap.get?_push_of_some _ (Heap.get?_push_of_some _ (Heap.get?_push_of_some _ x))))⟩
theorem tz_next {z TI TO i j a b : Addr} {k : Nat} {xs ys : Array Value} {x y p q : Value} {Q : Option Value → Shared → Prop} (D : ZipApart z TI TO i j a b)
    (ez : IsZip s.heap z TI TO .none) (eI : IsPair s.heap TI (.ref i) (.ref j)) (eO : IsPair s.heap TO p q) (ei : IsTupIter s.heap i a k) (ej : IsTupIter s.heap j b k) (ea : IsTup s.heap a xs) (eb : IsTup s.heap b ys)
    (hx : xs[k]? = some x) (hy : ys[k]? = some y)
    (r : ∀ g, IsZip g z TI TO (rawInt s.heap.objs.size) → IsPair g TO x y → IsTupIter g i a (k + 1) → IsTupIter g j b (k + 1) → IsPair g s.heap.objs.size x y → g.objs.size = s.heap.objs.size + 1 →
      (∀ c o, c ∉ [z, TO, i, j] → s.heap.get? c = some o → g.get? c = some o) → Q (some (.ref s.heap.objs.size)) { s with heap := g }) :
    wpAny (model prog w) A (pyNext (.ref z)) Q E s := by
  have ty : s.TypeIs (.ref z) "zip" := ⟨_, ez, rfl⟩
  unfold pyNext
  exact wpAny_bind (wpAny_attempt (wpAny_callSpecial?_slot (name := Str.ofString "__next__") ty F.slot_zip_next (wpAny_call_entry F.slot_zip_next ty F.entry_zip_next
      (tzip_got D ez eI eO ei ej ea eb hx hy fun g a1 a2 a3 a4 a5 a6 a7 => wpAny_pure (r g a1 a2 a3 a4 a5 a6 a7)) (F.args_zip_next_1 _))))
theorem tz_end {z TI TO i j a b : Addr} {k : Nat} {xs ys : Array Value} {p q : Value} {Q : Option Value → Shared → Prop} (hA : A.handled = none) (D : ZipApart z TI TO i j a b)
    (ez : IsZip s.heap z TI TO .none) (eI : IsPair s.heap TI (.ref i) (.ref j)) (eO : IsPair s.heap TO p q) (ei : IsTupIter s.heap i a k) (ej : IsTupIter s.heap j b k) (ea : IsTup s.heap a xs) (eb : IsTup s.heap b ys)
    (hend : xs[k]? = none ∨ ys[k]? = none)
    (r : ∀ g, (∀ c o, c ∉ [z, TO, i, j] → s.heap.get? c = some o → g.get? c = some o) → Q none { s with heap := g }) :
    wpAny (model prog w) A (pyNext (.ref z)) Q E s := by
  have ty : s.TypeIs (.ref z) "zip" := ⟨_, ez, rfl⟩
  unfold pyNext
  refine wpAny_bind (wpAny_attempt (wpAny_callSpecial?_slot (name := Str.ofString "__next__") ty F.slot_zip_next (wpAny_call_entry F.slot_zip_next ty F.entry_zip_next
      (tzip_out hA D ez eI eO ei ej ea eb hend fun g u hk ⟨o, ho, hc⟩ => ?_) (F.args_zip_next_1 _))))
  exact wpAny_bind (wpAny_isInstance (T := "StopIteration") (b := true) ⟨o, ho, hc⟩ isSubtype_stop (wpAny_pure (r _ hk)))
end
noncomputable def Itzt (K : PySem.W.Frag) (l1 l2 : Addr) : It :=
  ⟨fun i H => ∃ xs ys x y, SqT K H l1 xs ∧ SqT K H l2 ys ∧ xs[i]? = some x ∧ ys[i]? = some y,
   fun i H v H' => ∃ T x y, v = .ref T ∧ H T = none ∧ H' = upd H T (.tup [x, y]) ∧ (∀ xs, SqT K H l1 xs → xs[i]? = some x) ∧ ∀ ys, SqT K H l2 ys → ys[i]? = some y,
   fun i H => ∃ xs ys, SqT K H l1 xs ∧ SqT K H l2 ys ∧ min xs.length ys.length = i⟩
theorem turn_tz {P : Program} {w : World} {K : PySem.W.Frag} {elts : List Expr} {k : Nat} {pos : Pos} (z TI TO i1 i2 l1 l2 : Addr) (D : ZipApart z TI TO i1 i2 l1 l2) :
    Turn P w K (.Tuple elts k pos) (Itzt K l1 l2) [z, TI, TO, i1, i2] z (fun i h => IsZip h z TI TO .none ∧ IsPair h TI (.ref i1) (.ref i2) ∧ (∃ a b, IsPair h TO a b) ∧ IsTupIter h i1 l1 i ∧ IsTupIter h i2 l2 i) where
  mem := by simp
  obj := fun i h st b hb => by
    obtain ⟨h1, h2, ⟨a, c, h3⟩, ⟨o4, e4, _, d4⟩, ⟨o5, e5, _, d5⟩⟩ := st
    have hb' : b = z ∨ b = TI ∨ b = TO ∨ b = i1 ∨ b = i2 := by simpa using hb
    rcases hb' with rfl | rfl | rfl | rfl | rfl
    · exact ⟨_, h1, fun v e => by cases e⟩
    · exact ⟨_, h2, fun v e => by cases e⟩
    · exact ⟨_, h3, fun v e => by cases e⟩
    · exact ⟨o4, e4, fun v e => by rw [d4] at e; cases e⟩
    · exact ⟨o5, e5, fun v e => by rw [d5] at e; cases e⟩
  keep := fun i h h' st kp => by
    obtain ⟨h1, h2, ⟨a, c, h3⟩, ⟨o4, e4, r4⟩, ⟨o5, e5, r5⟩⟩ := st
    exact ⟨kp z (by simp) _ h1, kp TI (by simp) _ h2, ⟨a, c, kp TO (by simp) _ h3⟩, ⟨o4, kp i1 (by simp) _ e4, r4⟩, ⟨o5, kp i2 (by simp) _ e5, r5⟩⟩
  item := by
    intro X hP hw hK hc i pins s σ H E I hf st hg
    subst hP hw hK
    obtain ⟨xs, ys, x, y, hq1, hq2, hx, hy⟩ := hg
    obtain ⟨its1, rv1, p1, hz1⟩ := I.tuple hq1
    obtain ⟨its2, rv2, p2, hz2⟩ := I.tuple hq2
    obtain ⟨u1, hu1, ru1⟩ := rv1.get hx
    obtain ⟨u2, hu2, ru2⟩ := rv2.get hy
    obtain ⟨s1, s2, ⟨a3, b3, s3⟩, s4, s5⟩ := st
    refine tz_next D s1 s2 s3 s4 s5 p1 p2 (x := u1) (y := u2) (by simpa using hu1) (by simpa using hu2) fun g t1 t3 t4 t5 isT sz kp => ?_
    have sub : ∀ c ∈ [z, TO, i1, i2], c ∈ [z, TI, TO, i1, i2] := fun c hc => by
      have : c = z ∨ c = TO ∨ c = i1 ∨ c = i2 := by simpa using hc
      rcases this with rfl | rfl | rfl | rfl <;> simp
    have tI : IsPair g TI (.ref i1) (.ref i2) := kp TI _ (by simp [D.TIz, D.TITO, D.TIi1, D.TIi2]) s2
    refine ⟨.ref s.heap.objs.size, rfl, wpAny_letOwnedTupleGo_zip t1 fun h3 t1' b3' => ?_⟩
    have kp3 : ∀ c o, c ∉ [z, TO, i1, i2] → s.heap.get? c = some o → h3.get? c = some o := fun c o hc e => b3'.extBut _ _ (fun h => hc (by simp [h])) (kp c o hc e)
    have J : Inv X pins σ H { s with heap := h3, toks := s.toks } := I.turnedL (ch := [z, TO, i1, i2]) (fun b hb => hf b (sub b hb)) kp3
    have hT0 : H s.heap.objs.size = none := I.hok.fresh (Nat.le_refl _)
    have nT : s.heap.objs.size ∉ [z, TI, TO, i1, i2] := fun hm => by
      obtain ⟨o, e⟩ : ∃ o, s.heap.get? s.heap.objs.size = some o := by
        have : s.heap.objs.size = z ∨ s.heap.objs.size = TI ∨ s.heap.objs.size = TO ∨ s.heap.objs.size = i1 ∨ s.heap.objs.size = i2 := by simpa using hm
        obtain ⟨o4, e4, _⟩ := s4
        obtain ⟨o5, e5, _⟩ := s5
        rcases this with h | h | h | h | h
        · exact ⟨_, h ▸ s1⟩
        · exact ⟨_, h ▸ s2⟩
        · exact ⟨_, h ▸ s3⟩
        · exact ⟨_, h ▸ e4⟩
        · exact ⟨_, h ▸ e5⟩
      exact absurd (Heap.lt_size e) (Nat.lt_irrefl _)
    have isT3 : IsTup h3 s.heap.objs.size #[u1, u2] := ⟨_, b3'.extBut _ _ (fun h => nT (by simp [h])) isT, rfl, _, rfl⟩
    have fp := I.fpOk (H' := H) (Nat.le_refl _) hT0
    refine ⟨.ref s.heap.objs.size, upd H s.heap.objs.size (.tup [x, y]), J.track hT0 ?_ fp.2.1 fp.2.2.2.2.1 fp.2.2.2.2.2 ?_, rfl, ⟨_, x, y, rfl, hT0, rfl, fun zs hs => by rw [I.tuple_inj hs hq1]; exact hx, fun zs hs => by rw [I.tuple_inj hs hq2]; exact hy⟩,
      ⟨t1', b3'.extBut _ _ D.TIz tI, ⟨_, _, b3'.extBut _ _ D.TOz t3⟩, t4.extBut b3'.extBut D.i1z, t5.extBut b3'.extBut D.i2z⟩, fun b hb => ?_⟩
    · cases e : X.s₀.heap.get? s.heap.objs.size with
      | none => rfl
      | some o => exact absurd (Heap.lt_size e) (Nat.not_lt.mpr I.sz)
    · exact ⟨by show 2 ≤ sizeLine; rw [sizeLine_eq]; decide, [u1, u2], .cons ru1 (.cons ru2 .nil), isT3⟩
    · have nb : b ≠ s.heap.objs.size := fun e => nT (by rw [← e]; exact hb)
      rw [upd_ne nb]; exact (hf b hb).1
  done := by
    intro X hP hw hK hc i pins s σ H E I hf st hg
    subst hP hw hK
    obtain ⟨xs, ys, hq1, hq2, hi⟩ := hg
    obtain ⟨its1, rv1, p1, hz1⟩ := I.tuple hq1
    obtain ⟨its2, rv2, p2, hz2⟩ := I.tuple hq2
    obtain ⟨s1, s2, ⟨a3, b3, s3⟩, s4, s5⟩ := st
    have e1 := rv1.length
    have e2 := rv2.length
    refine tz_end (I.ok.hd hc) D s1 s2 s3 s4 s5 p1 p2 ?_ fun g kp => ⟨rfl, I.turnedL (t' := s.toks) (ch := [z, TO, i1, i2]) (fun b hb => hf b ?_) kp⟩
    · rcases Nat.le_total xs.length ys.length with h | h
      · exact .inl (by simp; omega)
      · exact .inr (by simp; omega)
    · have : b = z ∨ b = TO ∨ b = i1 ∨ b = i2 := by simpa using hb
      rcases this with rfl | rfl | rfl | rfl <;> simp
  self := fun _ _ _ _ _ st h => wpAny_pyIter_zip st.1 h
noncomputable def iZipT (K : PySem.W.Frag) (ta : TA) : TI := fun σ H R => ta σ H fun vs H1 => ∃ l1 l2, vs = [.ref l1, .ref l2] ∧ (∃ xs, SqT K H1 l1 xs) ∧ (∃ ys, SqT K H1 l2 ys) ∧ R (Itzt K l1 l2) H1
theorem pi_zipT {X : Cx} {elts : List Expr} {k : Nat} {tp : Pos} {a b : Expr} {ta : TA} {p pos : Pos} (hg : Gl X "zip") (hm : X.mg "zip" = none) (ha : PA X [a, b] ta) (hs : starEach [a, b] X.env = [(false, eval a X.env), (false, eval b X.env)] := by rfl) (hs2 : starEach [b] X.env = [(false, eval b X.env)] := by rfl) :
    PI X (.Tuple elts k tp) (.Call (.Name "zip" p) [a, b] [] pos) (iZipT X.K ta) := by
  intro pins s σ H R I h
  refine Call_ (ld_blt I hg hm bt_zip (PyProof.Rows.callWith_type1 (thn (ha pos pins s σ H _ I h) fun us s1 ⟨vs, H1, I1, r1, q1⟩ => ?_) (by rw [hs, hs2]) (by rw [hs2]; rfl)))
  obtain ⟨l1, l2, rfl, ⟨xs, hq1⟩, ⟨ys, hq2⟩, q⟩ := q1
  obtain ⟨u, v, rfl, ru, rv⟩ := vals2 r1
  cases ru
  cases rv
  obtain ⟨its1, _, p1, _⟩ := I1.tuple hq1
  obtain ⟨its2, _, p2, _⟩ := I1.tuple hq2
  have D := PySem.W.ktu_apart s1.heap.objs.size l1 l2 p1.lt p2.lt
  refine tz_call p1 p2 fun h5 n en hz hTI hTO hi1 hi2 kp => ?_
  subst en
  refine wpAny_pyIter_zip hz ?_
  have I2 : Inv X pins σ H1 { s1 with heap := h5 } := I1.kept (t' := s1.toks) kp
  refine ⟨s1.heap.objs.size + 4, [s1.heap.objs.size + 4, s1.heap.objs.size + 2, s1.heap.objs.size + 3, s1.heap.objs.size, s1.heap.objs.size + 1], _, _, H1, rfl, I2, turn_tz _ _ _ _ _ l1 l2 D, ⟨hz, hTI, ⟨_, _, hTO⟩, hi1, hi2⟩, fun b hb => ?_, q⟩
  have hle : s1.heap.objs.size ≤ b := by
    have : b = s1.heap.objs.size + 4 ∨ b = s1.heap.objs.size + 2 ∨ b = s1.heap.objs.size + 3 ∨ b = s1.heap.objs.size ∨ b = s1.heap.objs.size + 1 := by simpa using hb
    rcases this with rfl | rfl | rfl | rfl | rfl <;> first | exact Nat.le_refl _ | exact Nat.le_add_right _ _
  exact I1.fpOk hle (I1.hok.fresh hle)
theorem qi_zipT {X : Cx} {elts : List Expr} {k : Nat} {tp : Pos} {a b : Expr} {ta : TA} {p pos : Pos} (hg : Gl X "zip") (hm : X.mg "zip" = none) (ha : QA X [a, b] ta) (hs : starEach [a, b] X.env = [(false, eval a X.env), (false, eval b X.env)] := by rfl) (hs2 : starEach [b] X.env = [(false, eval b X.env)] := by rfl) :
    QI X (.Tuple elts k tp) (.Call (.Name "zip" p) [a, b] [] pos) (iZipT X.K ta) := ⟨pi_zipT hg hm ha.h hs hs2⟩
theorem comp_zipT {K : PySem.W.Frag} {a b : Addr} {xs ys : List V} {g : TG} {tc : TT} {te : TE} {σ : St} {H : Hp} {D : Addr} {Q : VK} (Pv : Nat → St → Hp → Prop) (hxy : xs.length = ys.length) (h0 : Pv 0 σ (upd H D (.lst [])))
    (hl : ∀ i σ H, i ≤ xs.length → Pv i σ H → SqT K H a xs ∧ SqT K H b ys)
    (hs : ∀ i x y T σ' H', xs[i]? = some x → ys[i]? = some y → Pv i σ' H' → H' T = none → g (.ref T) σ' (upd H' T (.tup [x, y])) fun σ3 H3 => tc σ3 H3 fun b H4 =>
      if b = true then te σ3 H4 fun y H5 => ∃ ys, H5 D = some (.lst ys) ∧ ys.length < sizeLine ∧ Pv (i + 1) σ3 (upd H5 D (.lst (ys ++ [y]))) else Pv (i + 1) σ3 H4) (hd : ∀ σ' H', Pv xs.length σ' H' → Q (.ref D) H') :
    CompW (Itzt K a b) g tc te D σ (upd H D (.lst [])) Q := by
  refine ⟨fun i m σ H => m = xs.length - i ∧ i ≤ xs.length ∧ Pv i σ H, ⟨xs.length, by simp, Nat.zero_le _, h0⟩, ?_⟩
  rintro i m σ H ⟨rfl, hi, p⟩
  have q := hl i σ H hi p
  by_cases hlt : i < xs.length
  · refine .inr ⟨⟨xs, ys, xs[i], ys[i]'(hxy ▸ hlt), q.1, q.2, by simp [hlt], by simp [hxy ▸ hlt]⟩, Pv (i + 1), fun σ' H' p' => ⟨xs.length - (i + 1), by omega, rfl, hlt, p'⟩, fun v H' y => ?_⟩
    obtain ⟨T, x, y', rfl, hT, rfl, y1, y2⟩ := y
    exact hs i x y' T σ _ (y1 xs q.1) (y2 ys q.2) p hT
  · have e : i = xs.length := by omega
    subst e
    exact .inl ⟨⟨xs, ys, q.1, q.2, by omega⟩, hd σ H p⟩
end L2
--END

set_option maxRecDepth 100000
--BEGIN
namespace RB
open PySem PySem.Spec PyProof.Rows L2
/-! ### things that are the same -/
mutual
noncomputable def sameT : Th → Th → Bool
  | .tup xs, .tup ys => sameTs xs ys
  | .int i, .int j => decide (i = j)
  | .str x, .str y => decide (x = y)
  | _, _ => false
noncomputable def sameTs : List Th → List Th → Bool
  | [], [] => true
  | x :: xs, y :: ys => sameT x y && sameTs xs ys
  | _, _ => false
end
/-- tuples within tuples, at most so deep, none longer than a thousand -/
noncomputable def DpT : Nat → Th → Prop
  | 0, .tup _ => False
  | d + 1, .tup ts => ts.length ≤ 1000 ∧ ∀ t ∈ ts, DpT d t
  | _, _ => True
theorem sameTs_len : ∀ {xs ys : List Th}, xs.length ≠ ys.length → sameTs xs ys = false
  | [], [], h => absurd rfl h
  | [], _ :: _, _ => by simp [sameTs]
  | _ :: _, [], _ => by simp [sameTs]
  | x :: xs, y :: ys, h => by
    have : sameTs xs ys = false := sameTs_len (by simpa using h)
    simp [sameTs, this]
theorem sameTs_zip : ∀ {xs ys : List Th}, xs.length = ys.length → sameTs xs ys = ((List.zipWith sameT xs ys).all id)
  | [], [], _ => by simp [sameTs]
  | x :: xs, y :: ys, h => by
    have : sameTs xs ys = ((List.zipWith sameT xs ys).all id) := sameTs_zip (by simpa using h)
    simp [sameTs, this]
noncomputable def spSame (K : PySem.W.Frag) (d : Nat) : Sp := fun vs H Q _ => ∃ v t v' t', vs = [v, v'] ∧ IsTh K H v t ∧ IsTh K H v' t' ∧ DpT d t ∧ ∀ H', Same H H' → Q (.bl (sameT t t')) H'
theorem IsThs.at {K : PySem.W.Frag} {H : Hp} {vs : List V} {ts : List Th} {i : Nat} {v : V} (h : IsThs K H vs ts) (e : vs[i]? = some v) : ∃ (hi : i < ts.length), IsTh K H v ts[i] := by
  obtain ⟨t, et, r⟩ := h.get e
  obtain ⟨hi, rfl⟩ := List.getElem?_eq_some_iff.mp et
  exact ⟨hi, r⟩
theorem zipW_take {α β γ : Type} (f : α → β → γ) {xs : List α} {ys : List β} {i : Nat} (h1 : i < xs.length) (h2 : i < ys.length) : (List.zipWith f xs ys).take i ++ [f xs[i] ys[i]] = (List.zipWith f xs ys).take (i + 1) := by
  rw [List.take_add_one, List.getElem?_eq_getElem (by simp; omega), List.getElem_zipWith]; rfl
end RB
--END

set_option maxRecDepth 100000
--BEGIN
namespace RB
open PySem L2 PySem.Spec PyProof.Rows
/-- the paper of a name, told by what is known -/
noncomputable def PapIs (gv : Kn) (rc : Rn) (rm : Rm) (kn : Kn) (x : Str) : Pap → Prop
  | .given => gv x ≠ none
  | .new => gv x = none ∧ rm x = none
  | .rcp r s => gv x = none ∧ rc x = some s ∧ r ≠ s ∧ ∃ ps v, rm x = some (r, ps, v)
  | .rd k n m => gv x = none ∧ ∃ r ps v y, rm x = some (r, ps, v) ∧ rc x = some r ∧ (∀ (j : Nat) p, j < k → ps[j]? = some p → kn p.1 = some p.2) ∧ ps[k]? = some (y, n) ∧ kn y = some m ∧ m ≠ n
  | .alike => gv x = none ∧ ∃ r ps v, rm x = some (r, ps, v) ∧ rc x = some r ∧ ∀ (j : Nat) p, ps[j]? = some p → kn p.1 = some p.2
theorem PapIs.one {gv : Kn} {rc : Rn} {rm : Rm} {kn : Kn} {x : Str} : ∀ {p q : Pap}, PapIs gv rc rm kn x p → PapIs gv rc rm kn x q → p = q
  | .given, .given, _, _ => rfl
  | .given, .new, h, g => absurd g.1 h
  | .given, .rcp _ _, h, g => absurd g.1 h
  | .given, .rd _ _ _, h, g => absurd g.1 h
  | .given, .alike, h, g => absurd g.1 h
  | .new, .given, h, g => absurd h.1 g
  | .rcp _ _, .given, h, g => absurd h.1 g
  | .rd _ _ _, .given, h, g => absurd h.1 g
  | .alike, .given, h, g => absurd h.1 g
  | .new, .new, _, _ => rfl
  | .new, .rcp _ _, h, g => by obtain ⟨_, _, _, ps, v, e⟩ := g; rw [h.2] at e; cases e
  | .new, .rd _ _ _, h, g => by obtain ⟨_, r, ps, v, y, e, _⟩ := g; rw [h.2] at e; cases e
  | .new, .alike, h, g => by obtain ⟨_, r, ps, v, e, _⟩ := g; rw [h.2] at e; cases e
  | .rcp _ _, .new, g, h => by obtain ⟨_, _, _, ps, v, e⟩ := g; rw [h.2] at e; cases e
  | .rd _ _ _, .new, g, h => by obtain ⟨_, r, ps, v, y, e, _⟩ := g; rw [h.2] at e; cases e
  | .alike, .new, g, h => by obtain ⟨_, r, ps, v, e, _⟩ := g; rw [h.2] at e; cases e
  | .rcp _ _, .rcp _ _, h, g => by
    obtain ⟨_, h1, _, ps, v, e⟩ := h
    obtain ⟨_, g1, _, ps', v', e'⟩ := g
    rw [e] at e'; rw [h1] at g1
    cases e'; cases g1; rfl
  | .rcp _ _, .rd _ _ _, h, g => by
    obtain ⟨_, h1, h2, ps, v, e⟩ := h
    obtain ⟨_, r, ps', v', y, e', g1, _⟩ := g
    rw [e] at e'; rw [h1] at g1
    cases e'; cases g1; exact absurd rfl h2
  | .rcp _ _, .alike, h, g => by
    obtain ⟨_, h1, h2, ps, v, e⟩ := h
    obtain ⟨_, r, ps', v', e', g1, _⟩ := g
    rw [e] at e'; rw [h1] at g1
    cases e'; cases g1; exact absurd rfl h2
  | .rd _ _ _, .rcp _ _, g, h => by
    obtain ⟨_, h1, h2, ps, v, e⟩ := h
    obtain ⟨_, r, ps', v', y, e', g1, _⟩ := g
    rw [e] at e'; rw [h1] at g1
    cases e'; cases g1; exact absurd rfl h2
  | .alike, .rcp _ _, g, h => by
    obtain ⟨_, h1, h2, ps, v, e⟩ := h
    obtain ⟨_, r, ps', v', e', g1, _⟩ := g
    rw [e] at e'; rw [h1] at g1
    cases e'; cases g1; exact absurd rfl h2
  | .rd k n m, .rd k' n' m', h, g => by
    obtain ⟨_, r, ps, v, y, e, _, h1, h2, h3, h4⟩ := h
    obtain ⟨_, r', ps', v', y', e', _, g1, g2, g3, g4⟩ := g
    rw [e] at e'; cases e'
    have hk : k = k' := by
      rcases Nat.lt_trichotomy k k' with z | z | z
      · have := g1 k _ z h2
        rw [h3] at this; exact absurd (Option.some.inj this) h4
      · exact z
      · have := h1 k' _ z g2
        rw [g3] at this; exact absurd (Option.some.inj this) g4
    subst hk
    rw [h2] at g2; cases g2
    rw [h3] at g3; cases g3
    rfl
  | .rd k n m, .alike, h, g => by
    obtain ⟨_, r, ps, v, y, e, _, h1, h2, h3, h4⟩ := h
    obtain ⟨_, r', ps', v', e', _, g1⟩ := g
    rw [e] at e'; cases e'
    have := g1 k _ h2
    rw [h3] at this; exact absurd (Option.some.inj this) h4
  | .alike, .rd k n m, g, h => by
    obtain ⟨_, r, ps, v, y, e, _, h1, h2, h3, h4⟩ := h
    obtain ⟨_, r', ps', v', e', _, g1⟩ := g
    rw [e] at e'; cases e'
    have := g1 k _ h2
    rw [h3] at this; exact absurd (Option.some.inj this) h4
  | .alike, .alike, _, _ => rfl
noncomputable def sp2Pa : Sp := fun vs H Q _ => ∃ (h g c rcd wd : Addr) (n : Nat) (gv : Kn) (rc : Rn) (kr kw : List (Key × V)) (rm rmN : Rm) (kn : Kn) (x : Str), vs = [.ref h, .ref rcd, .ref wd, .str x] ∧ HouseG H h g c n gv rc ∧ n ≤ 17 ∧ H rcd = some (.dK kr) ∧ RecD H kr n rm ∧ Rd H wd (.dK kw) ∧ (∀ x, valV kw (.inr x) = (kn x).map V.int) ∧ StOk n gv rc kn rmN ∧ kn x ≠ none ∧
  ∀ b p H', Same H H' → PapAt H' b p → PapIs gv rc rm kn x p → Q (.ref b) H'
/-- a paper as a thing -/
noncomputable def Pap.toTh : Pap → Th
  | .given => .tup [.str "given"]
  | .new => .tup [.str "new"]
  | .rcp r s => .tup [.str "recipe", r.toTh, s.toTh]
  | .rd k n m => .tup [.str "read", .int k, .int n, .int m]
  | .alike => .tup [.str "alike"]
theorem PapAt.isTh {K : PySem.W.Frag} {H : Hp} {b : Addr} {p : Pap} (h : PapAt H b p) : IsTh K H (.ref b) p.toTh := by
  cases h with
  | given e => exact .tup e (.cons (.str _) .nil)
  | new e => exact .tup e (.cons (.str _) .nil)
  | rcp e hp hq _ _ _ _ => exact .tup e (.cons (.str _) (.cons hp.isTh (.cons hq.isTh .nil)))
  | rd e => exact .tup e (.cons (.str _) (.cons (.int _) (.cons (.int _) (.cons (.int _) .nil))))
  | alike e => exact .tup e (.cons (.str _) .nil)
theorem DpT.mono : ∀ {d e : Nat} {t : Th}, d ≤ e → DpT d t → DpT e t
  | 0, 0, _, _, h => h
  | 0, e + 1, t, _, h => by cases t <;> first | trivial | exact h.elim
  | d + 1, 0, _, hl, _ => absurd hl (by omega)
  | d + 1, e + 1, t, hl, h => by
    cases t with
    | tup ts => exact ⟨h.1, fun t ht => DpT.mono (by omega) (h.2 t ht)⟩
    | _ => trivial
theorem dpT_str {d : Nat} {x : Str} : DpT d (.str x) := by cases d <;> trivial
theorem dpT_int {d : Nat} {i : Int} : DpT d (.int i) := by cases d <;> trivial
/-- a recipe as a thing is no deeper than the recipe and one more -/
theorem R.dpT : ∀ (r : R), r.Fine → DpT (r.depth + 1) r.toTh
  | .num n, _ => ⟨by simp, fun t ht => by
    have : t = .str "number" ∨ t = .int n := by simpa using ht
    rcases this with rfl | rfl <;> first | exact dpT_str | exact dpT_int⟩
  | .rd x, _ => ⟨by simp, fun t ht => by
    have : t = .str "read" ∨ t = .str x := by simpa using ht
    rcases this with rfl | rfl <;> exact dpT_str⟩
  | .bin op a b, h => ⟨by simp, fun t ht => by
    have : t = .str op.word ∨ t = a.toTh ∨ t = b.toTh := by simpa using ht
    have hd : (R.bin op a b).depth = max a.depth b.depth + 1 := rfl
    rcases this with rfl | rfl | rfl
    · exact dpT_str
    · exact (R.dpT a h.1).mono (by omega)
    · exact (R.dpT b h.2).mono (by omega)⟩
  | .pick a b c, h => ⟨by simp, fun t ht => by
    have : t = .str "pick" ∨ t = a.toTh ∨ t = b.toTh ∨ t = c.toTh := by simpa using ht
    have hd : (R.pick a b c).depth = max a.depth (max b.depth c.depth) + 1 := rfl
    rcases this with rfl | rfl | rfl | rfl
    · exact dpT_str
    · exact (R.dpT a h.1).mono (by omega)
    · exact (R.dpT b h.2.1).mono (by omega)
    · exact (R.dpT c h.2.2).mono (by omega)⟩
  | .cho a ns, h => ⟨by simp, fun t ht => by
    have : t = .str "choose" ∨ t = a.toTh ∨ t = .tup (ns.map Th.str) := by simpa using ht
    have hd : (R.cho a ns).depth = a.depth + 1 := rfl
    rcases this with rfl | rfl | rfl
    · exact dpT_str
    · exact (R.dpT a h.1).mono (by omega)
    · refine ⟨by have := h.2; simp at *; omega, fun t ht => ?_⟩
      obtain ⟨x, _, rfl⟩ := List.mem_map.mp ht
      exact dpT_str⟩
end RB
--END

set_option maxRecDepth 100000
--BEGIN
namespace RB
open PySem L2 PySem.Spec PyProof.Rows
mutual
theorem sameT_eq : ∀ {t u : Th}, sameT t u = true → t = u
  | .tup xs, .tup ys, h => by rw [sameT] at h; rw [sameTs_eq h]
  | .int i, .int j, h => by rw [sameT] at h; rw [of_decide_eq_true h]
  | .str x, .str y, h => by rw [sameT] at h; rw [of_decide_eq_true h]
  | .tup _, .non, h => by simp [sameT] at h
  | .tup _, .bl _, h => by simp [sameT] at h
  | .tup _, .int _, h => by simp [sameT] at h
  | .tup _, .str _, h => by simp [sameT] at h
  | .tup _, .oth _, h => by simp [sameT] at h
  | .int _, .non, h => by simp [sameT] at h
  | .int _, .bl _, h => by simp [sameT] at h
  | .int _, .tup _, h => by simp [sameT] at h
  | .int _, .str _, h => by simp [sameT] at h
  | .int _, .oth _, h => by simp [sameT] at h
  | .str _, .non, h => by simp [sameT] at h
  | .str _, .bl _, h => by simp [sameT] at h
  | .str _, .tup _, h => by simp [sameT] at h
  | .str _, .int _, h => by simp [sameT] at h
  | .str _, .oth _, h => by simp [sameT] at h
  | .non, u, h => by simp [sameT] at h
  | .bl _, u, h => by simp [sameT] at h
  | .oth _, u, h => by simp [sameT] at h
theorem sameTs_eq : ∀ {ts us : List Th}, sameTs ts us = true → ts = us
  | [], [], _ => rfl
  | x :: xs, y :: ys, h => by
    rw [sameTs, Bool.and_eq_true] at h
    rw [sameT_eq h.1, sameTs_eq h.2]
  | [], _ :: _, h => by simp [sameTs] at h
  | _ :: _, [], h => by simp [sameTs] at h
end
/-- made of numbers, texts and tuples -/
inductive PlT : Th → Prop where
  | int (i : Int) : PlT (.int i)
  | str (x : Str) : PlT (.str x)
  | tup {ts : List Th} (h : ∀ t ∈ ts, PlT t) : PlT (.tup ts)
theorem sameTs_refl : ∀ {ts : List Th}, (∀ t ∈ ts, sameT t t = true) → sameTs ts ts = true
  | [], _ => by simp [sameTs]
  | x :: xs, h => by
    rw [sameTs, h x (by simp), sameTs_refl fun t ht => h t (by simp [ht])]; rfl
theorem PlT.refl {t : Th} (h : PlT t) : sameT t t = true := by
  induction h with
  | int i => simp [sameT]
  | str x => simp [sameT]
  | tup h ih => rw [sameT]; exact sameTs_refl ih
theorem R.plT : ∀ (r : R), PlT r.toTh
  | .num n => .tup fun t ht => by
    have : t = .str "number" ∨ t = .int n := by simpa using ht
    rcases this with rfl | rfl <;> constructor
  | .rd x => .tup fun t ht => by
    have : t = .str "read" ∨ t = .str x := by simpa using ht
    rcases this with rfl | rfl <;> constructor
  | .bin op a b => .tup fun t ht => by
    have : t = .str op.word ∨ t = a.toTh ∨ t = b.toTh := by simpa using ht
    rcases this with rfl | rfl | rfl
    · constructor
    · exact R.plT a
    · exact R.plT b
  | .pick a b c => .tup fun t ht => by
    have : t = .str "pick" ∨ t = a.toTh ∨ t = b.toTh ∨ t = c.toTh := by simpa using ht
    rcases this with rfl | rfl | rfl | rfl
    · constructor
    · exact R.plT a
    · exact R.plT b
    · exact R.plT c
  | .cho a ns => .tup fun t ht => by
    have : t = .str "choose" ∨ t = a.toTh ∨ t = .tup (ns.map Th.str) := by simpa using ht
    rcases this with rfl | rfl | rfl
    · constructor
    · exact R.plT a
    · refine .tup fun t ht => ?_
      obtain ⟨x, _, rfl⟩ := List.mem_map.mp ht
      constructor
theorem wordOp_inj : ∀ {o o' : Op}, o.word = o'.word → o = o' := by
  intro o o' h; cases o <;> cases o' <;> first | rfl | exact absurd h (by decide)
theorem wordOp_ne (o : Op) : o.word ≠ "choose" := by cases o <;> decide
theorem R.th_inj : ∀ {r s : R}, r.toTh = s.toTh → r = s
  | .num n, .num m, h => by simp [R.toTh] at h; rw [h]
  | .rd x, .rd y, h => by simp [R.toTh] at h; rw [h]
  | .bin o a b, .bin o' a' b', h => by
    simp only [R.toTh, Th.tup.injEq, List.cons.injEq, Th.str.injEq, and_true] at h
    rw [wordOp_inj h.1, R.th_inj h.2.1, R.th_inj h.2.2]
  | .pick a b c, .pick a' b' c', h => by
    simp only [R.toTh, Th.tup.injEq, List.cons.injEq, and_true, true_and] at h
    rw [R.th_inj h.1, R.th_inj h.2.1, R.th_inj h.2.2]
  | .cho a ns, .cho a' ms, h => by
    simp only [R.toTh, Th.tup.injEq, List.cons.injEq, and_true, true_and] at h
    rw [R.th_inj h.1, (List.map_inj_right (fun x y e => by cases e; rfl)).mp h.2]
  | .num n, .rd y, h => by simp [R.toTh] at h
  | .num n, .bin _ _ _, h => by simp [R.toTh] at h
  | .num n, .pick _ _ _, h => by simp [R.toTh] at h
  | .num n, .cho _ _, h => by simp [R.toTh] at h
  | .rd n, .num y, h => by simp [R.toTh] at h
  | .rd n, .bin _ _ _, h => by simp [R.toTh] at h
  | .rd n, .pick _ _ _, h => by simp [R.toTh] at h
  | .rd n, .cho _ _, h => by simp [R.toTh] at h
  | .bin _ _ _, .num y, h => by simp [R.toTh] at h
  | .bin _ _ _, .rd y, h => by simp [R.toTh] at h
  | .bin _ _ _, .pick _ _ _, h => by simp [R.toTh] at h
  | .bin o _ _, .cho _ _, h => by
    simp only [R.toTh, Th.tup.injEq, List.cons.injEq, Th.str.injEq, and_true] at h
    exact absurd h.1 (wordOp_ne o)
  | .pick _ _ _, .num y, h => by simp [R.toTh] at h
  | .pick _ _ _, .rd y, h => by simp [R.toTh] at h
  | .pick _ _ _, .bin _ _ _, h => by simp [R.toTh] at h
  | .pick _ _ _, .cho _ _, h => by simp [R.toTh] at h
  | .cho _ _, .num y, h => by simp [R.toTh] at h
  | .cho _ _, .rd y, h => by simp [R.toTh] at h
  | .cho _ _, .bin o _ _, h => by
    simp only [R.toTh, Th.tup.injEq, List.cons.injEq, Th.str.injEq, and_true] at h
    exact absurd h.1.symm (wordOp_ne o)
  | .cho _ _, .pick _ _ _, h => by simp [R.toTh] at h
theorem same_eq {r s : R} (e : r = s) : sameT r.toTh s.toTh = true := by rw [e]; exact s.plT.refl
theorem same_ne {r s : R} (e : r ≠ s) : sameT r.toTh s.toTh = false := by
  cases h : sameT r.toTh s.toTh with
  | false => rfl
  | true => exact absurd (R.th_inj (sameT_eq h)) e
end RB
--END

set_option maxRecDepth 100000
--BEGIN
namespace L2
open PySem PySem.Spec PyProof.Rows
/-! ### for k, x in enumerate(a list) -/
noncomputable def Ite (K : PySem.W.Frag) (l : Addr) : It :=
  ⟨fun i H => ∃ xs x, SqL K H l xs ∧ xs[i]? = some x,
   fun i H v H' => ∃ T x, v = .ref T ∧ H T = none ∧ H' = upd H T (.tup [.int (i : Int), x]) ∧ ∀ xs, SqL K H l xs → xs[i]? = some x,
   fun i H => ∃ xs, SqL K H l xs ∧ xs.length = i⟩
theorem turn_enum {P : Program} {w : World} {K : PySem.W.Frag} {elts : List Expr} {k : Nat} {pos : Pos} (e it l : Addr) (n1 : e ≠ it) (n2 : l ≠ e) (n3 : l ≠ it) :
    Turn P w K (.Tuple elts k pos) (Ite K l) [e, it] e (fun i h => (∃ old, IsEnum h e it i old) ∧ h.IsListIter it l i) where
  mem := by simp
  obj := fun i h st b hb => by
    obtain ⟨⟨old, h1⟩, ⟨o4, e4, _, d4⟩⟩ := st
    have hb' : b = e ∨ b = it := by simpa using hb
    rcases hb' with rfl | rfl
    · exact ⟨_, h1, fun v e => by cases e⟩
    · exact ⟨o4, e4, fun v e => by rw [d4] at e; cases e⟩
  keep := fun i h h' st kp => by
    obtain ⟨⟨old, h1⟩, h4⟩ := st
    exact ⟨⟨old, kp e (by simp) _ h1⟩, h4.at fun o z => kp it (by simp) o z⟩
  item := by
    intro X hP hw hK hc i pins s σ H E I hf st hg
    subst hP hw hK
    obtain ⟨xs, x, hq, hx⟩ := hg
    obtain ⟨its, rv, p1, hz1⟩ := I.list hq
    obtain ⟨u, hu, ru⟩ := rv.get hx
    obtain ⟨⟨old, s1⟩, s4⟩ := st
    have W := WalksT.enumerate (prog := X.prog) (w := X.w) (A := X.A) (I.ok.hd hc) e it l n1 n2 n3 its.toArray
    have b1 : i < its.length := (List.getElem?_eq_some_iff.mp hu).1
    refine W.item i s _ _ (by simpa using b1) ⟨⟨old, s1⟩, s4, p1.isList⟩ fun T vals h2 tk pv hT isT mid kp => ?_
    obtain ⟨tt, a, ha, rfl⟩ := pv
    have ea : a = u := by have : its[i]? = some a := by simpa using ha
                          rw [hu] at this; exact (Option.some.inj this).symm
    subst ea
    refine ⟨.ref T, rfl, W.go elts k pos i T _ _ _ mid fun h3 st3 kp3 => ?_⟩
    obtain ⟨t1, t4, _⟩ := st3
    have J : Inv X pins σ H { s with heap := h3, toks := tk } := I.turnedL (ch := [e, it]) (fun b hb => hf b hb) fun b o hb z => kp3 b o hb (kp b o hb z)
    have hT0 : H T = none := I.hok.fresh hT
    have nT : T ∉ [e, it] := fun hm => by
      obtain ⟨o, z⟩ : ∃ o, s.heap.get? T = some o := by
        have : T = e ∨ T = it := by simpa using hm
        obtain ⟨o4, e4, _⟩ := s4
        rcases this with rfl | rfl
        · exact ⟨_, s1⟩
        · exact ⟨_, e4⟩
      exact absurd (Heap.lt_size z) (Nat.not_lt.mpr hT)
    have isT3 : IsTup h3 T #[.int i tt, a] := by
      obtain ⟨o, z, r⟩ := isT
      exact ⟨o, kp3 T o nT z, r⟩
    have fp := I.fpOk (H' := H) hT hT0
    refine ⟨.ref T, upd H T (.tup [.int (i : Int), x]), J.track hT0 ?_ fp.2.1 fp.2.2.2.2.1 fp.2.2.2.2.2 ?_, rfl, ⟨T, x, rfl, hT0, rfl, fun zs hs => by rw [I.list_inj hs hq]; exact hx⟩, ⟨t1, t4⟩, fun b hb => ?_⟩
    · cases z : X.s₀.heap.get? T with
      | none => rfl
      | some o => exact absurd (Heap.lt_size z) (Nat.not_lt.mpr (Nat.le_trans I.sz hT))
    · exact ⟨by show 2 ≤ sizeLine; rw [sizeLine_eq]; decide, [.int i tt, a], .cons ⟨tt, rfl⟩ (.cons ru .nil), isT3⟩
    · have nb : b ≠ T := fun z => nT (by rw [← z]; exact hb)
      rw [upd_ne nb]; exact (hf b hb).1
  done := by
    intro X hP hw hK hc i pins s σ H E I hf st hg
    subst hP hw hK
    obtain ⟨xs, hq, hi⟩ := hg
    obtain ⟨its, rv, p1, hz1⟩ := I.list hq
    obtain ⟨s1, s4⟩ := st
    have W := WalksT.enumerate (prog := X.prog) (w := X.w) (A := X.A) (I.ok.hd hc) e it l n1 n2 n3 its.toArray
    have en : its.toArray.size = i := by rw [List.size_toArray, ← rv.length]; exact hi
    subst en
    exact W.done s _ _ ⟨s1, s4, p1.isList⟩ fun h2 tk kp => ⟨rfl, I.turnedL (ch := [e, it]) (fun b hb => hf b hb) kp⟩
  self := fun A i s Q E st h => by
    obtain ⟨⟨old, h1⟩, h4⟩ := st
    exact wpAny_pyIter_enum h1 h
noncomputable def iEnum (K : PySem.W.Frag) (ta : TA) : TI := fun σ H R => ta σ H fun vs H1 => ∃ l, vs = [.ref l] ∧ (∃ xs, SqL K H1 l xs) ∧ R (Ite K l) H1
theorem pi_enum {X : Cx} {elts : List Expr} {k : Nat} {tp : Pos} {a : Expr} {ta : TA} {p pos : Pos} (hg : Gl X "enumerate") (hm : X.mg "enumerate" = none) (ha : PA X [a] ta) (hs : starEach [a] X.env = [(false, eval a X.env)] := by rfl) :
    PI X (.Tuple elts k tp) (.Call (.Name "enumerate" p) [a] [] pos) (iEnum X.K ta) := by
  intro pins s σ H R I h
  refine Call_ (ld_blt I hg hm bt_enumerate (PyProof.Rows.callWith_type1 (thn (ha pos pins s σ H _ I h) fun us s1 ⟨vs, H1, I1, r1, q1⟩ => ?_) (by rw [hs]; rfl) (by rfl)))
  obtain ⟨l, rfl, ⟨xs, hq⟩, q⟩ := q1
  obtain ⟨u, rfl, ru⟩ := vals1 r1
  cases ru
  obtain ⟨its, _, p1, _⟩ := I1.list hq
  have lt1 : l < s1.heap.objs.size := by obtain ⟨o, e, _⟩ := p1.isList; exact Heap.lt_size e
  refine call_enumerate_list p1.isList fun h5 he hi _ kp => ?_
  refine wpAny_pyIter_enum he ?_
  have I2 : Inv X pins σ H1 { s1 with heap := h5 } := I1.kept (t' := s1.toks) kp
  refine ⟨s1.heap.objs.size + 1, [s1.heap.objs.size + 1, s1.heap.objs.size], _, _, H1, rfl, I2, turn_enum _ _ l (Nat.succ_ne_self _) (Nat.ne_of_lt (Nat.lt_succ_of_lt lt1)) (Nat.ne_of_lt lt1), ⟨⟨_, he⟩, hi⟩, fun b hb => ?_, q⟩
  have hle : s1.heap.objs.size ≤ b := by
    have : b = s1.heap.objs.size + 1 ∨ b = s1.heap.objs.size := by simpa using hb
    rcases this with rfl | rfl <;> first | exact Nat.le_refl _ | exact Nat.le_add_right _ _
  exact I1.fpOk hle (I1.hok.fresh hle)
theorem qi_enum {X : Cx} {elts : List Expr} {k : Nat} {tp : Pos} {a : Expr} {ta : TA} {p pos : Pos} (hg : Gl X "enumerate") (hm : X.mg "enumerate" = none) (ha : QA X [a] ta) (hs : starEach [a] X.env = [(false, eval a X.env)] := by rfl) :
    QI X (.Tuple elts k tp) (.Call (.Name "enumerate" p) [a] [] pos) (iEnum X.K ta) := ⟨pi_enum hg hm ha.h hs⟩
theorem for_enum {K : PySem.W.Frag} {a : Addr} {xs : List V} {g : TG} {tb : TS} {D : Ends} {σ : St} {H : Hp} (Pv : Nat → St → Hp → Prop) (h0 : Pv 0 σ H) (hl : ∀ i σ H, i ≤ xs.length → Pv i σ H → SqL K H a xs)
    (hs : ∀ i x T σ H, xs[i]? = some x → H T = none → Pv i σ H → g (.ref T) σ (upd H T (.tup [.int (i : Int), x])) fun σ2 H2 => tb { D with nx := Pv (i + 1), ct := Pv (i + 1), bk := D.nx } σ2 H2) (hd : ∀ σ H, Pv xs.length σ H → D.nx σ H) :
    ∃ W : Nat → Nat → St → Hp → Prop, (∃ m, W 0 m σ H) ∧ ∀ i m σ H, W i m σ H →
      ((Ite K a).stop i H ∧ D.nx σ H) ∨ ((Ite K a).go i H ∧ ∃ N : St → Hp → Prop, (∀ σ' H', N σ' H' → ∃ m', m' < m ∧ W (i + 1) m' σ' H') ∧ ∀ x H', (Ite K a).yld i H x H' → g x σ H' fun σ2 H2 => tb { D with nx := N, ct := N, bk := D.nx } σ2 H2) := by
  refine ⟨fun i m σ H => m = xs.length - i ∧ i ≤ xs.length ∧ Pv i σ H, ⟨xs.length, by simp, Nat.zero_le _, h0⟩, ?_⟩
  rintro i m σ H ⟨rfl, hi, p⟩
  have q1 := hl i σ H hi p
  by_cases hlt : i < xs.length
  · refine .inr ⟨⟨xs, xs[i], q1, List.getElem?_eq_getElem hlt⟩, Pv (i + 1), fun σ' H' z => ⟨_, by omega, rfl, hlt, z⟩, ?_⟩
    rintro x H' ⟨T, u, rfl, hT, rfl, e1⟩
    exact hs i u T σ H (e1 xs q1) hT p
  · have e : i = xs.length := by omega
    subst e
    exact .inl ⟨⟨xs, q1, rfl⟩, hd σ H p⟩
theorem qe_dget1 {X : Cx} {o e : Expr} {apos cpos : Pos} {td ty : TE} (hu : X.A.units + 1 < cLine) (ho : QE X o td) (he : QE X e ty) (m : M1 X o "get" apos e cpos) : QE X (.Call (.Attribute o "get" apos) [e] [] cpos) (tDGet1 td ty) := ⟨pe_dget1 hu ho.h he.h m⟩
end L2
--END

set_option maxRecDepth 100000
--BEGIN
namespace RB
open PySem L2 PySem.Spec PyProof.Rows
theorem good_fineR : ∀ {r : R}, r.Good → r.Fine
  | .num _, _ => trivial
  | .rd x, h => ⟨h.2.1, fun c hc => by have := h.2.2 c hc; unfold isLow at this; omega⟩
  | .bin _ a b, h => ⟨good_fineR h.1, good_fineR h.2⟩
  | .pick a b c, h => ⟨good_fineR h.1, good_fineR h.2.1, good_fineR h.2.2⟩
  | .cho a ns, h => ⟨good_fineR h.1, h.2⟩
theorem PapAt.dpT {H : Hp} {b : Addr} {p : Pap} (h : PapAt H b p) : DpT 10 p.toTh := by
  cases h with
  | given e => exact ⟨by simp, fun t ht => by have : t = .str "given" := by simpa using ht
                                              rw [this]; exact dpT_str⟩
  | new e => exact ⟨by simp, fun t ht => by have : t = .str "new" := by simpa using ht
                                            rw [this]; exact dpT_str⟩
  | alike e => exact ⟨by simp, fun t ht => by have : t = .str "alike" := by simpa using ht
                                              rw [this]; exact dpT_str⟩
  | @rd k n m e => exact ⟨by simp, fun t ht => by
      have : t = .str "read" ∨ t = .int k ∨ t = .int n ∨ t = .int m := by simpa using ht
      rcases this with rfl | rfl | rfl | rfl <;> first | exact dpT_str | exact dpT_int⟩
  | @rcp r s a b e _ _ gr gs dr ds => exact ⟨by simp, fun t ht => by
      have : t = .str "recipe" ∨ t = r.toTh ∨ t = s.toTh := by simpa using ht
      rcases this with rfl | rfl | rfl
      · exact dpT_str
      · exact (r.dpT (good_fineR gr)).mono (show r.depth + 1 ≤ 9 by omega)
      · exact (s.dpT (good_fineR gs)).mono (show s.depth + 1 ≤ 9 by omega)⟩
noncomputable def sp2Sh (K : PySem.W.Frag) : Sp := fun vs H Q _ => ∃ (h g c rcd wd : Addr) (n : Nat) (gv : Kn) (rc : Rn) (kr kw : List (Key × V)) (rm rmN : Rm) (kn : Kn) (x : Str) (v : V) (t : Th), vs = [.ref h, .ref rcd, .ref wd, .str x, v] ∧ HouseG H h g c n gv rc ∧ n ≤ 17 ∧ H rcd = some (.dK kr) ∧ RecD H kr n rm ∧ H wd = some (.dK kw) ∧ (∀ x, valV kw (.inr x) = (kn x).map V.int) ∧ StOk n gv rc kn rmN ∧ IsTh K H v t ∧
  (kn x = none → ∀ H', Same H H' → Q (.bl false) H') ∧ ∀ p H', kn x ≠ none → PapIs gv rc rm kn x p → Same H H' → Q (.bl (sameT p.toTh t)) H'
end RB
--END

set_option maxRecDepth 100000
--BEGIN
namespace RB
open PySem L2 PySem.Spec PyProof.Rows
/-! ### things as data, and the law's own comparison -/
mutual
noncomputable def thD : Th → PyData
  | .non => .none
  | .bl b => .bool b
  | .int i => .int i
  | .str x => .str x
  | .tup ts => .tuple (thDs ts)
  | .oth _ => .none
noncomputable def thDs : List Th → List PyData
  | [] => []
  | t :: ts => thD t :: thDs ts
end
noncomputable def NiT : Nat → Th → Prop
  | _, .non => True
  | _, .bl _ => True
  | _, .int _ => True
  | _, .str x => PyData.strOk x = true
  | 0, .tup _ => False
  | d + 1, .tup ts => ts.length ≤ 1000 ∧ ∀ t ∈ ts, NiT d t
  | _, .oth _ => False
theorem niT_non {d : Nat} : NiT d .non := by cases d <;> trivial
theorem niT_bl {d : Nat} {b : Bool} : NiT d (.bl b) := by cases d <;> trivial
theorem niT_int {d : Nat} {i : Int} : NiT d (.int i) := by cases d <;> trivial
theorem niT_str {d : Nat} {x : Str} (h : PyData.strOk x = true) : NiT d (.str x) := by cases d <;> exact h
mutual
theorem IsTh.datV {K : PySem.W.Frag} {H : Hp} : ∀ {v : V} {t : Th} {d : Nat}, IsTh K H v t → NiT d t → DatV K H v (thD t)
  | _, _, _, .non, _ => by rw [thD]; exact .non
  | _, _, _, .bl b, _ => by rw [thD]; exact .bl b
  | _, _, _, .int i, _ => by rw [thD]; exact .int i
  | _, _, _, .str x, _ => by rw [thD]; exact .str x
  | _, _, 0, .tup e h, n => absurd n (by simp [NiT])
  | _, _, d + 1, .tup e h, n => by rw [thD]; exact .tup (SqT.of e) (IsThs.datVs h fun t ht => n.2 t ht)
  | _, _, 0, .oth _ _ _, n => absurd n (by simp [NiT])
  | _, _, d + 1, .oth _ _ _, n => absurd n (by simp [NiT])
theorem IsThs.datVs {K : PySem.W.Frag} {H : Hp} : ∀ {vs : List V} {ts : List Th} {d : Nat}, IsThs K H vs ts → (∀ t ∈ ts, NiT d t) → DatVs K H vs (thDs ts)
  | _, _, _, .nil, _ => by rw [thDs]; exact .nil
  | _, _, _, .cons h r, n => by rw [thDs]; exact .cons (IsTh.datV h (n _ (by simp))) (IsThs.datVs r fun t ht => n t (by simp [ht]))
end
theorem thDs_lay : ∀ {d : Nat} {ts : List Th}, (∀ t ∈ ts, (thD t).canLay0 = true ∧ (thD t).depth ≤ d) → PyData.canLayAll0 (thDs ts) = true ∧ PyData.depthAll (thDs ts) ≤ d
  | d, [], _ => ⟨by simp [thDs, PyData.canLayAll0], by simp [thDs, PyData.depthAll]⟩
  | d, t :: ts, h => by
    obtain ⟨h1, h2⟩ := h t (by simp)
    obtain ⟨h3, h4⟩ := thDs_lay (d := d) (ts := ts) fun u hu => h u (by simp [hu])
    exact ⟨by simp [thDs, PyData.canLayAll0, h1, h3], by simp only [thDs, PyData.depthAll]; omega⟩
theorem NiT.lay : ∀ {d : Nat} {t : Th}, NiT d t → (thD t).canLay0 = true ∧ (thD t).depth ≤ d + 1
  | d, .non, _ => by simp [thD, PyData.canLay0, PyData.depth]
  | d, .bl _, _ => by simp [thD, PyData.canLay0, PyData.depth]
  | d, .int _, _ => by simp [thD, PyData.canLay0, PyData.depth]
  | 0, .str x, h => by simp only [NiT] at h; simp [thD, PyData.canLay0, PyData.depth, h]
  | d + 1, .str x, h => by simp only [NiT] at h; simp [thD, PyData.canLay0, PyData.depth, h]
  | 0, .tup _, h => absurd h (by simp [NiT])
  | d + 1, .tup ts, h => by
    obtain ⟨h1, h2⟩ := thDs_lay (d := d + 1) (ts := ts) fun t ht => NiT.lay (h.2 t ht)
    exact ⟨by rw [thD, PyData.canLay0]; exact h1, by rw [thD, PyData.depth]; omega⟩
  | 0, .oth _, h => absurd h (by simp [NiT])
  | d + 1, .oth _, h => absurd h (by simp [NiT])
theorem NiT.shaped {d : Nat} {t : Th} (h : NiT d t) (hd : d ≤ 60) : SeqAt.shaped (thD t) = true := by
  obtain ⟨h1, h2⟩ := h.lay
  unfold SeqAt.shaped
  rw [h1, decide_eq_true (by omega)]; rfl
noncomputable def isBT : Th → Bool
  | .bl _ => true
  | _ => false
mutual
noncomputable def alikeT : Th → Th → Bool
  | .tup ts, .tup us => alikeTs ts us
  | t, u => PyData.eqv (thD t) (thD u) && (isBT t == isBT u)
noncomputable def alikeTs : List Th → List Th → Bool
  | [], [] => true
  | t :: ts, u :: us => alikeT t u && alikeTs ts us
  | _, _ => false
end
theorem alike_flat {t u : Th} (h : (∀ ts, t ≠ .tup ts) ∨ ∀ us, u ≠ .tup us) : alikeT t u = (PyData.eqv (thD t) (thD u) && (isBT t == isBT u)) := by
  rw [alikeT]
  intro ts us e1 e2
  rcases h with h | h
  · exact h ts e1
  · exact h us e2
theorem beq_turn {α : Type} [BEq α] [LawfulBEq α] [DecidableEq α] {i j : α} : (i == j) = decide (j = i) := by
  by_cases z : i = j
  · subst z; simp
  · rw [decide_eq_false (Ne.symm z)]; exact beq_eq_false_iff_ne.mpr z
mutual
theorem alike_same : ∀ {t u : Th}, PlT u → alikeT t u = sameT u t
  | .tup ts, .tup us, h => by
    rw [alikeT, sameT]
    exact alikes_sames (by cases h; assumption)
  | .non, .tup us, h => by rw [alike_flat (.inl (by simp))]; simp [thD, PyData.eqv, sameT]
  | .bl _, .tup us, h => by rw [alike_flat (.inl (by simp))]; simp [thD, PyData.eqv, sameT]
  | .int _, .tup us, h => by rw [alike_flat (.inl (by simp))]; simp [thD, PyData.eqv, sameT]
  | .str _, .tup us, h => by rw [alike_flat (.inl (by simp))]; simp [thD, PyData.eqv, sameT]
  | .oth _, .tup us, h => by rw [alike_flat (.inl (by simp))]; simp [thD, PyData.eqv, sameT]
  | .non, .int j, h => by rw [alike_flat (.inl (by simp))]; simp [thD, PyData.eqv, sameT]
  | .bl _, .int j, h => by rw [alike_flat (.inl (by simp))]; simp [thD, PyData.eqv, sameT, isBT]
  | .int i, .int j, h => by rw [alike_flat (.inl (by simp))]; simp only [thD, PyData.eqv, sameT, isBT, beq_self_eq_true, Bool.and_true]; exact beq_turn
  | .str _, .int j, h => by rw [alike_flat (.inl (by simp))]; simp [thD, PyData.eqv, sameT]
  | .tup _, .int j, h => by rw [alike_flat (.inr (by simp))]; simp [thD, PyData.eqv, sameT]
  | .oth _, .int j, h => by rw [alike_flat (.inl (by simp))]; simp [thD, PyData.eqv, sameT]
  | .non, .str j, h => by rw [alike_flat (.inl (by simp))]; simp [thD, PyData.eqv, sameT]
  | .bl _, .str j, h => by rw [alike_flat (.inl (by simp))]; simp [thD, PyData.eqv, sameT]
  | .int _, .str j, h => by rw [alike_flat (.inl (by simp))]; simp [thD, PyData.eqv, sameT]
  | .str x, .str j, h => by rw [alike_flat (.inl (by simp))]; simp only [thD, PyData.eqv, sameT, isBT, beq_self_eq_true, Bool.and_true]; exact beq_turn
  | .tup _, .str j, h => by rw [alike_flat (.inr (by simp))]; simp [thD, PyData.eqv, sameT]
  | .oth _, .str j, h => by rw [alike_flat (.inl (by simp))]; simp [thD, PyData.eqv, sameT]
  | _, .non, h => nomatch h
  | _, .bl _, h => nomatch h
  | _, .oth _, h => nomatch h
theorem alikes_sames : ∀ {ts us : List Th}, (∀ u ∈ us, PlT u) → alikeTs ts us = sameTs us ts
  | [], [], _ => by simp [alikeTs, sameTs]
  | [], _ :: _, _ => by simp [alikeTs, sameTs]
  | _ :: _, [], _ => by simp [alikeTs, sameTs]
  | t :: ts, u :: us, h => by
    rw [alikeTs, sameTs, alike_same (h u (by simp)), alikes_sames fun v hv => h v (by simp [hv])]
end
theorem alikeTs_len : ∀ {ts us : List Th}, ts.length ≠ us.length → alikeTs ts us = false
  | [], [], h => absurd rfl h
  | [], _ :: _, _ => by simp [alikeTs]
  | _ :: _, [], _ => by simp [alikeTs]
  | x :: xs, y :: ys, h => by
    have : alikeTs xs ys = false := alikeTs_len (by simpa using h)
    simp [alikeTs, this]
theorem alikeTs_all : ∀ {ts us : List Th}, ts.length = us.length → (alikeTs ts us = true ↔ ∀ i (h1 : i < ts.length) (h2 : i < us.length), alikeT ts[i] us[i] = true)
  | [], [], _ => by simp [alikeTs]
  | x :: xs, y :: ys, h => by
    have ih := alikeTs_all (ts := xs) (us := ys) (by simpa using h)
    rw [alikeTs, Bool.and_eq_true, ih]
    constructor
    · rintro ⟨h1, h2⟩ i hi1 hi2
      cases i with
      | zero => exact h1
      | succ i => exact h2 i (by simpa using hi1) (by simpa using hi2)
    · intro h1
      exact ⟨h1 0 (by simp) (by simp), fun i a b => h1 (i + 1) (by simpa using a) (by simpa using b)⟩
noncomputable def spLk (K : PySem.W.Frag) (d : Nat) : Sp := fun vs H Q _ => ∃ v t v' t', vs = [v, v'] ∧ IsTh K H v t ∧ IsTh K H v' t' ∧ NiT d t ∧ NiT d t' ∧ d ≤ 40 ∧ ∀ H', Same H H' → Q (.bl (alikeT t t')) H'
end RB
--END

set_option maxRecDepth 100000
--BEGIN
namespace RB
open PySem L2 PySem.Spec PyProof.Rows
mutual
theorem IsTh.tupsN {K : PySem.W.Frag} {H H' : Hp} (s : Tups H H') : ∀ {v : V} {t : Th} {d : Nat}, IsTh K H v t → NiT d t → IsTh K H' v t
  | _, _, _, .non, _ => .non
  | _, _, _, .bl b, _ => .bl b
  | _, _, _, .int i, _ => .int i
  | _, _, _, .str x, _ => .str x
  | _, _, 0, .tup e h, n => absurd n (by simp [NiT])
  | _, _, d + 1, .tup e h, n => .tup (s _ _ e) (IsThs.tupsN s h fun t ht => n.2 t ht)
  | _, _, 0, .oth _ _ _, n => absurd n (by simp [NiT])
  | _, _, d + 1, .oth _ _ _, n => absurd n (by simp [NiT])
theorem IsThs.tupsN {K : PySem.W.Frag} {H H' : Hp} (s : Tups H H') : ∀ {vs : List V} {ts : List Th} {d : Nat}, IsThs K H vs ts → (∀ t ∈ ts, NiT d t) → IsThs K H' vs ts
  | _, _, _, .nil, _ => .nil
  | _, _, _, .cons h r, n => .cons (IsTh.tupsN s h (n _ (by simp))) (IsThs.tupsN s r fun t ht => n t (by simp [ht]))
end
theorem IsThs.snoc {K : PySem.W.Frag} {H : Hp} {v : V} {t : Th} (h : IsTh K H v t) : ∀ {vs : List V} {ts : List Th}, IsThs K H vs ts → IsThs K H (vs ++ [v]) (ts ++ [t])
  | _, _, .nil => .cons h .nil
  | _, _, .cons h' r => .cons h' (r.snoc h)
theorem thD_str {t : Th} {x : Str} (p : PlT t) (h : PyData.eqv (thD t) (.str x) = true) : t = .str x := by
  cases p with
  | int i => simp [thD, PyData.eqv] at h
  | str y => simp only [thD, PyData.eqv] at h; rw [eq_of_beq h]
  | tup _ => simp [thD, PyData.eqv] at h
theorem thD_int {t : Th} {j : Int} (p : PlT t) (h : PyData.eqv (thD t) (.int j) = true) : t = .int j := by
  cases p with
  | int i => simp only [thD, PyData.eqv] at h; rw [eq_of_beq h]
  | str y => simp [thD, PyData.eqv] at h
  | tup _ => simp [thD, PyData.eqv] at h
theorem num_of {t : Th} {j : Int} (p : PlT t) (h : PyData.eqv (thD t) (.tuple [.str "number", .int j]) = true) : t = .tup [.str "number", .int j] := by
  cases p with
  | int i => simp [thD, PyData.eqv] at h
  | str y => simp [thD, PyData.eqv] at h
  | @tup ts hp =>
    match ts, hp, h with
    | [], _, h => simp [thD, thDs, PyData.eqv, PyData.eqvAll] at h
    | [a], _, h => simp [thD, thDs, PyData.eqv, PyData.eqvAll] at h
    | [a, b], hp, h =>
      simp only [thD, thDs, PyData.eqv, PyData.eqvAll, Bool.and_eq_true] at h
      rw [thD_str (hp a (by simp)) h.1, thD_int (hp b (by simp)) h.2.1]
    | a :: b :: c :: r, _, h => simp [thD, thDs, PyData.eqv, PyData.eqvAll] at h
theorem ni_num {d : Nat} {t : Th} (h : t = .bl b ∨ ∃ j, t = .int j) : NiT (d + 1) (.tup [.str "number", t]) := ⟨by simp, fun u hu => by
  have : u = .str "number" ∨ u = t := by simpa using hu
  rcases this with rfl | rfl
  · exact niT_str (by decide +kernel)
  · rcases h with rfl | ⟨j, rfl⟩
    · exact niT_bl
    · exact niT_int⟩
theorem shaped_num (j : Int) : SeqAt.shaped (.tuple [.str "number", .int j]) = true := by
  have h := (ni_num (b := true) (d := 0) (t := .int j) (.inr ⟨j, rfl⟩)).shaped (by omega)
  simpa [thD, thDs] using h
noncomputable def sp2Tr (K : PySem.W.Frag) (d : Nat) : Sp := fun vs H Q _ => ∃ v t, vs = [v] ∧ IsTh K H v t ∧ NiT d t ∧ PlT t ∧ d ≤ 40 ∧ ∀ v' t' H', Same H H' → IsTh K H' v' t' → NiT d t' → Q v' H'
end RB
--END

set_option maxRecDepth 100000
--BEGIN
namespace RB
open PySem L2 PySem.Spec PyProof.Rows
theorem NiT.mono : ∀ {d e : Nat} {t : Th}, d ≤ e → NiT d t → NiT e t
  | d, e, .non, _, _ => niT_non
  | d, e, .bl _, _, _ => niT_bl
  | d, e, .int _, _, _ => niT_int
  | 0, e, .str x, _, h => niT_str h
  | d + 1, e, .str x, _, h => niT_str h
  | 0, e, .tup _, _, h => absurd h (by simp [NiT])
  | d + 1, 0, .tup _, hl, h => absurd hl (by omega)
  | d + 1, e + 1, .tup ts, hl, h => ⟨h.1, fun t ht => (h.2 t ht).mono (by omega)⟩
  | 0, e, .oth _, _, h => absurd h (by simp [NiT])
  | d + 1, e, .oth _, _, h => absurd h (by simp [NiT])
theorem niT_word {d : Nat} (op : Op) : NiT d (.str op.word) := niT_str (by cases op <;> decide +kernel)
theorem R.niT : ∀ (r : R), r.Good → NiT (r.depth + 1) r.toTh
  | .num n, _ => ⟨by simp, fun t ht => by
    have : t = .str "number" ∨ t = .int n := by simpa using ht
    rcases this with rfl | rfl
    · exact niT_str (by decide +kernel)
    · exact niT_int⟩
  | .rd x, h => ⟨by simp, fun t ht => by
    have : t = .str "read" ∨ t = .str x := by simpa using ht
    rcases this with rfl | rfl
    · exact niT_str (by decide +kernel)
    · exact niT_str (strOk_name h)⟩
  | .bin op a b, h => ⟨by simp, fun t ht => by
    have : t = .str op.word ∨ t = a.toTh ∨ t = b.toTh := by simpa using ht
    have hd : (R.bin op a b).depth = max a.depth b.depth + 1 := rfl
    rcases this with rfl | rfl | rfl
    · exact niT_word op
    · exact (R.niT a h.1).mono (by omega)
    · exact (R.niT b h.2).mono (by omega)⟩
  | .pick a b c, h => ⟨by simp, fun t ht => by
    have : t = .str "pick" ∨ t = a.toTh ∨ t = b.toTh ∨ t = c.toTh := by simpa using ht
    have hd : (R.pick a b c).depth = max a.depth (max b.depth c.depth) + 1 := rfl
    rcases this with rfl | rfl | rfl | rfl
    · exact niT_str (by decide +kernel)
    · exact (R.niT a h.1).mono (by omega)
    · exact (R.niT b h.2.1).mono (by omega)
    · exact (R.niT c h.2.2).mono (by omega)⟩
  | .cho a ns, h => ⟨by simp, fun t ht => by
    have : t = .str "choose" ∨ t = a.toTh ∨ t = .tup (ns.map Th.str) := by simpa using ht
    have hd : (R.cho a ns).depth = a.depth + 1 := rfl
    rcases this with rfl | rfl | rfl
    · exact niT_str (by decide +kernel)
    · exact (R.niT a h.1).mono (by omega)
    · refine ⟨by have := h.2; simp at *; omega, fun t ht => ?_⟩
      obtain ⟨x, hx, rfl⟩ := List.mem_map.mp ht
      exact niT_str (strOk_name (h.2.2.2 x hx))⟩
theorem PapAt.niT {H : Hp} {b : Addr} {p : Pap} (h : PapAt H b p) : NiT 10 p.toTh := by
  cases h with
  | given e => exact ⟨by simp, fun t ht => by have : t = .str "given" := by simpa using ht
                                              rw [this]; exact niT_str (by decide +kernel)⟩
  | new e => exact ⟨by simp, fun t ht => by have : t = .str "new" := by simpa using ht
                                            rw [this]; exact niT_str (by decide +kernel)⟩
  | alike e => exact ⟨by simp, fun t ht => by have : t = .str "alike" := by simpa using ht
                                              rw [this]; exact niT_str (by decide +kernel)⟩
  | @rd k n m e => exact ⟨by simp, fun t ht => by
      have : t = .str "read" ∨ t = .int k ∨ t = .int n ∨ t = .int m := by simpa using ht
      rcases this with rfl | rfl | rfl | rfl <;> first | exact niT_int | exact niT_str (by decide +kernel)⟩
  | @rcp r s a b e _ _ gr gs dr ds => exact ⟨by simp, fun t ht => by
      have : t = .str "recipe" ∨ t = r.toTh ∨ t = s.toTh := by simpa using ht
      rcases this with rfl | rfl | rfl
      · exact niT_str (by decide +kernel)
      · exact (r.niT gr).mono (show r.depth + 1 ≤ 9 by omega)
      · exact (s.niT gs).mono (show s.depth + 1 ≤ 9 by omega)⟩
theorem Pap.plT : ∀ (p : Pap), PlT p.toTh
  | .given => .tup fun t ht => by have : t = .str "given" := by simpa using ht
                                  rw [this]; constructor
  | .new => .tup fun t ht => by have : t = .str "new" := by simpa using ht
                                rw [this]; constructor
  | .alike => .tup fun t ht => by have : t = .str "alike" := by simpa using ht
                                  rw [this]; constructor
  | .rd k n m => .tup fun t ht => by
      have : t = .str "read" ∨ t = .int k ∨ t = .int n ∨ t = .int m := by simpa using ht
      rcases this with rfl | rfl | rfl | rfl <;> constructor
  | .rcp r s => .tup fun t ht => by
      have : t = .str "recipe" ∨ t = r.toTh ∨ t = s.toTh := by simpa using ht
      rcases this with rfl | rfl | rfl
      · constructor
      · exact r.plT
      · exact s.plT
end RB
--END

set_option maxRecDepth 100000
--BEGIN
namespace L2
open PySem PySem.Spec PyProof.Rows RB
/-! ### t[lo:hi], the whole of it or not -/
section
variable {prog : Program} {w : World} {A : Around} {E : Value → Shared → Prop} {s : Shared}
theorem cut_whole {t sl : Addr} {vs : Array Value} {vl vu : Value} {lo hi : Option Int} {Q : Value → Shared → Prop} (et : IsTup s.heap t vs) (es : s.heap.IsSliceOf sl vl vu .none) (pl : IsPart vl lo) (pu : IsPart vu hi)
    (h0 : HT.sIx vs.size 0 lo = 0) (h1 : HT.sIx vs.size vs.size hi = vs.size) (q : Q (.ref t) s) : wpAny (model prog w) A (getItem (.ref t) (.ref sl)) Q E s := by
  obtain ⟨os, hos, hcs, hds⟩ := id es
  have ty : s.TypeIs (.ref sl) "slice" := ⟨os, hos, hcs⟩
  unfold getItem
  try with_reducible refine wpAny_holding ?_
  try refine wpAny_bind (wpAny_pure ?_)
  refine wpAny_bind (wpAny_sequenceKey et.typeIs (by decide) ?_)
  refine wpAny_bind (wpAny_callSpecial?_slot (name := Str.ofString "__getitem__") et.typeIs PyProof.Rows.slot_tuple_getitem (wpAny_call_entry PyProof.Rows.slot_tuple_getitem et.typeIs entry_tuple_getitem ?_ (args_tuple_getitem _ _)))
  show wpAny _ _ (Builtin.Tuple.tupleItemsOf (.ref t) >>= _) _ _ _
  refine wpAny_bind (tupleItemsOf_ et (wpAny_bind (wpAny_typeOf ty ?_)))
  rw [if_pos (by decide)]
  refine wpAny_bind (HT.sliceApplied_gen es pl pu ?_)
  show wpAny _ _ (if (((HT.sIx vs.size 0 lo : Nat) : Int) == 0 && (1 : Int) == 1 && (HT.sIx vs.size vs.size hi - HT.sIx vs.size 0 lo) == vs.size) = true then _ else _) _ _ _
  rw [if_pos (by rw [h0, h1]; simp)]
  refine wpAny_bind (m := Builtin.Tuple.tupleIsExact _) (wpAny_bind (wpAny_typeOf et.typeIs (wpAny_pure ?_)))
  rw [if_pos (by decide)]
  exact wpAny_bind (wpAny_rule (wpAny_pure ⟨_, rfl, wpAny_pure q⟩))
end
noncomputable def rSlT2 (K : PySem.W.Frag) : V → Option Int → Option Int → Hp → VK → Prop := fun x lo hi H Q => ∃ a xs, x = .ref a ∧ H a = some (.tup xs) ∧ ∀ p H', Same H H' → H' p = some (.tup (cutV xs lo hi)) → Q (.ref p) H'
theorem sl_tup2 {X : Cx} : SlR X (rSlT2 X.K) := by
  intro pins s σ H x v vl vu lo hi sl Q I rx hs pl pu h
  obtain ⟨a, xs, rfl, hx, q⟩ := h
  by_cases hw : HT.sIx xs.length 0 lo = 0 ∧ HT.sIx xs.length xs.length hi = xs.length
  · cases rx
    obtain ⟨its, r, ht, hz⟩ := I.tuple (SqT.of hx)
    have hlen : its.toArray.size = xs.length := by rw [List.size_toArray]; exact r.length.symm
    refine ⟨"tuple", _, PyProof.Rows.slot_tuple_getitem.lookup, ht.typeIs, cut_whole ht hs pl pu (by rw [hlen]; exact hw.1) (by rw [hlen]; exact hw.2) ?_⟩
    refine ⟨.ref a, H, I, rfl, q a H (Same.refl _) ?_⟩
    rw [hx]; unfold cutV; rw [hw.1, hw.2]; simp
  · exact sl_tup pins s σ H _ v vl vu lo hi sl Q I rx hs pl pu ⟨a, xs, rfl, SqT.of hx, hw, fun p hp => q p _ (same_new _ hp) upd_same⟩
theorem qsl_tup2 {X : Cx} : QSl X (rSlT2 X.K) := ⟨sl_tup2⟩
end L2
namespace RB
open PySem L2 PySem.Spec PyProof.Rows
noncomputable def sp2Ot (K : PySem.W.Frag) : Sp := fun vs H Q _ => ∃ (p du oa : Addr) (c : Nat) (pd : Pap) (t0 : Th), vs = [.ref p, .ref du, .ref oa] ∧ PoolAt H p c ∧ c ≤ 50000 ∧ PapAt H du pd ∧ IsTh K H (.ref oa) t0 ∧ NiT 12 t0 ∧
  ∀ l ws ts H', But [p] H H' → PoolAt H' p (c + 2) → H' l = some (.lst ws) → ws.length = 2 → IsThs K H' ws ts → (∀ t ∈ ts, NiT 12 t) → Q (.ref l) H'
theorem IsThs.drop {K : PySem.W.Frag} {H : Hp} : ∀ {vs : List V} {ts : List Th} (k : Nat), IsThs K H vs ts → IsThs K H (vs.drop k) (ts.drop k)
  | _, _, 0, h => h
  | _, _, k + 1, .nil => .nil
  | _, _, k + 1, .cons _ r => by simpa using r.drop k
theorem IsThs.take {K : PySem.W.Frag} {H : Hp} : ∀ {vs : List V} {ts : List Th} (k : Nat), IsThs K H vs ts → IsThs K H (vs.take k) (ts.take k)
  | _, _, 0, _ => by simpa using IsThs.nil
  | _, _, k + 1, .nil => by simpa using IsThs.nil
  | _, _, k + 1, .cons h r => by simpa using IsThs.cons h (r.take k)
theorem IsThs.app {K : PySem.W.Frag} {H : Hp} : ∀ {vs us : List V} {ts rs : List Th}, IsThs K H vs ts → IsThs K H us rs → IsThs K H (vs ++ us) (ts ++ rs)
  | _, _, _, _, .nil, h => h
  | _, _, _, _, .cons h' r, h => .cons h' (r.app h)
/-- a part of a thing of parts -/
theorem IsThs.cut {K : PySem.W.Frag} {H : Hp} {vs : List V} {ts : List Th} (h : IsThs K H vs ts) (lo hi : Option Int) : ∃ us, IsThs K H (cutV vs lo hi) us ∧ ∀ u ∈ us, u ∈ ts :=
  ⟨_, (h.drop _).take _, fun u hu => List.mem_of_mem_drop (List.mem_of_mem_take hu)⟩
/-- a nice thing -/
noncomputable def Nic (K : PySem.W.Frag) (H : Hp) (v : V) : Prop := ∃ t, IsTh K H v t ∧ NiT 12 t
theorem Nic.same {K : PySem.W.Frag} {H H' : Hp} {v : V} (h : Nic K H v) (s : Same H H') : Nic K H' v := let ⟨t, a, b⟩ := h; ⟨t, a.same s, b⟩
theorem nic_of {K : PySem.W.Frag} {H : Hp} {p : Addr} {xs : List V} {ts : List Th} (e : H p = some (.tup xs)) (hx : IsThs K H xs ts) (hl : ts.length ≤ 1000) (hn : ∀ t ∈ ts, NiT 11 t) : Nic K H (.ref p) := ⟨.tup ts, .tup e hx, hl, hn⟩
theorem nic_w {K : PySem.W.Frag} {H : Hp} {p : Addr} {x : Str} (e : H p = some (.tup [.str x])) (h : PyData.strOk x = true) : Nic K H (.ref p) :=
  nic_of e (.cons (.str _) .nil) (by simp) fun t ht => by have : t = .str x := by simpa using ht
                                                          rw [this]; exact niT_str h
theorem nic_cut {K : PySem.W.Frag} {H : Hp} {p : Addr} {xs : List V} {ts : List Th} {lo hi : Option Int} (e : H p = some (.tup (cutV xs lo hi))) (hx : IsThs K H xs ts) (hl : xs.length ≤ 4) (hn : ∀ t ∈ ts, NiT 11 t) : Nic K H (.ref p) := by
  obtain ⟨us, h1, h2⟩ := hx.cut lo hi
  have := cutV_length xs lo hi
  have := h1.length
  exact nic_of e h1 (by omega) fun t ht => hn t (h2 t ht)
theorem nic_cat {K : PySem.W.Frag} {H : Hp} {p : Addr} {xs : List V} {ts : List Th} {lo hi : Option Int} (e : H p = some (.tup (xs ++ cutV xs lo hi))) (hx : IsThs K H xs ts) (hl : xs.length ≤ 4) (hn : ∀ t ∈ ts, NiT 11 t) : Nic K H (.ref p) := by
  obtain ⟨us, h1, h2⟩ := hx.cut lo hi
  have := cutV_length xs lo hi
  have := h1.length
  have := hx.length
  refine nic_of e (hx.app h1) (by simp; omega) fun t ht => ?_
  rcases List.mem_append.mp ht with z | z
  · exact hn t z
  · exact hn t (h2 t z)
theorem nic_four {K : PySem.W.Frag} {H : Hp} {p : Addr} {a b c : Int} (e : H p = some (.tup [.str "read", .int a, .int b, .int c])) : Nic K H (.ref p) :=
  nic_of e (.cons (.str _) (.cons (.int _) (.cons (.int _) (.cons (.int _) .nil)))) (by simp) fun t ht => by
    have : t = .str "read" ∨ t = .int a ∨ t = .int b ∨ t = .int c := by simpa using ht
    rcases this with rfl | rfl | rfl | rfl <;> first | exact niT_int | exact niT_str (by decide +kernel)
theorem nic_three {K : PySem.W.Frag} {H : Hp} {p : Addr} {u v : V} {t t' : Th} (e : H p = some (.tup [.str "recipe", u, v])) (h : IsTh K H u t) (n : NiT 10 t) (h' : IsTh K H v t') (n' : NiT 10 t') : Nic K H (.ref p) :=
  nic_of e (.cons (.str _) (.cons h (.cons h' .nil))) (by simp) fun z hz => by
    have : z = .str "recipe" ∨ z = t ∨ z = t' := by simpa using hz
    rcases this with rfl | rfl | rfl
    · exact niT_str (by decide +kernel)
    · exact n.mono (show 10 ≤ 11 by omega)
    · exact n'.mono (show 10 ≤ 11 by omega)
theorem nics {K : PySem.W.Frag} {H : Hp} : ∀ {ws : List V}, (∀ v ∈ ws, Nic K H v) → ∃ ts, IsThs K H ws ts ∧ ∀ t ∈ ts, NiT 12 t
  | [], _ => ⟨[], .nil, by simp⟩
  | w :: ws, h => by
    obtain ⟨t, a, b⟩ := h w (by simp)
    obtain ⟨ts, c, d⟩ := nics (ws := ws) fun v hv => h v (by simp [hv])
    exact ⟨t :: ts, .cons a c, fun u hu => by
      rcases List.mem_cons.mp hu with rfl | hu
      · exact b
      · exact d u hu⟩
end RB
--END

set_option maxRecDepth 100000
--BEGIN
namespace L2
open PySem PySem.Spec PyProof.Rows RB
/-- two pairs, alike place by place -/
theorem meets_pair {P : Program} {w : World} (a b : Addr) (x1 x2 y1 y2 : Value) (n m : Nat) (d1 d2 : Option Addr) (t1 t2 : Array (Option Value)) :
    MeetsIn P w (Builtin.«tuple.__eq__» ⟨[.ref a, .ref b], []⟩)
      (fun A R s => s.heap.get? a = some { cls := .type "tuple", dict := d1, data := .seq #[x1, x2] n, slots := t1 } ∧ s.heap.get? b = some { cls := .type "tuple", dict := d2, data := .seq #[y1, y2] m, slots := t2 } ∧
        EqIn P w A.in1 s x1 y1 ∧ EqIn P w A.in1 s x2 y2 ∧ R (.ok (.ret (.bool true))) s) := by
  intro A R s z
  obtain ⟨hp, g, d, tk, os⟩ := s
  obtain ⟨z1, z2, e1, e2, z⟩ := z
  have f2 := AutoSeq1.sub_tuple_tuple
  wp_walk using AutoSeq1.wpAny_loadPart' z1, AutoSeq1.wpAny_loadPart' z2, wpAny_forIn_list _ (fun rest c s' => c.1 = none ∧ s' = ⟨hp, g, d, tk, os⟩ ∧ (rest = [(x1, y1), (x2, y2)] ∨ rest = [(x2, y2)] ∨ rest = [])) _
  case turn =>
    rintro ⟨y, x⟩ rest c s' ⟨hc, rfl, h⟩
    rcases h with h | h | h
    · cases h
      refine wpAny_bind (e1 _ _ ?_)
      wp_walk
      exact ⟨rfl, rfl, .inr (.inl rfl)⟩
    · cases h
      refine wpAny_bind (e2 _ _ ?_)
      wp_walk
      exact ⟨rfl, rfl, .inr (.inr rfl)⟩
    · cases h
  case fin =>
    rintro ⟨c1, c2⟩ s' ⟨hc, rfl, _⟩
    simp only at hc
    subst hc
    wp_walk
    first | exact z | exact ⟨_, rfl, z⟩
  case h => exact ⟨rfl, rfl, .inl rfl⟩
theorem eqIn_pairs {P : Program} {w : World} {A : Around} {s : Shared} {a b : Addr} {x1 x2 y1 y2 : Value} (ha : IsTup s.heap a #[x1, x2]) (hb : IsTup s.heap b #[y1, y2]) (h1 : EqIn P w A.in1 s x1 y1) (h2 : EqIn P w A.in1 s x2 y2) (hu : A.units < cLine) : EqIn P w A s (.ref a) (.ref b) := fun E Q q => by
  by_cases hab : a = b
  · subst hab; exact SeqAt.EqAt.same (.ref a) P w E Q q
  obtain ⟨⟨c1, d1, dt1, t1⟩, hp, hc1, n, hd1⟩ := ha
  obtain ⟨⟨c2, d2, dt2, t2⟩, hq, hc2, m, hd2⟩ := hb
  simp only at hc1 hd1 hc2 hd2
  subst hc1 hd1 hc2 hd2
  have hT : s.TypeIs (.ref a) "tuple" := ⟨_, hp, rfl⟩
  unfold eqBool
  refine wpAny_holding (wpAny_ite_split (fun z => absurd (by have := eq_of_beq z; injection this) hab) fun _ => wpAny_bind ?_)
  refine wpAny_richCompare_same_room (op := .Eq) hT ⟨_, hq, rfl⟩ F.slot_tuple_eq (call_meetsIn F.slot_tuple_eq hT F.entry_tuple_eq (F.args_tuple_eq_2 _ _) (meets_pair a b x1 x2 y1 y2 n m d1 d2 t1 t2) ⟨hp, hq, h1, h2, ?_⟩) hu
  exact ⟨(fun x => nomatch x), wpAny_truthy_bool q⟩
theorem eqIn_of {X : Cx} {pins : List (Addr × Obj)} {s : Shared} {σ : St} {H : Hp} {A : Around} {x y : V} {z z' : Value} (I : Inv X pins σ H s) (rz : RelV x z) (rz' : RelV y z') (h : EqV H x y) (hu : A.units < cLine) : EqIn X.prog X.w A s z z' := by
  rcases h with ⟨e, pv⟩ | ⟨p, q', kvs, e3, e4, hp, hq, hpl⟩
  · rw [← e] at rz'
    exact EqIn.of (eqAt_sameV pv rz rz')
  · rw [e3] at rz
    rw [e4] at rz'
    cases rz
    cases rz'
    obtain ⟨_, lo, va, ka, da⟩ := (show ObjOk X.prog X.w H s.heap p (.dK kvs) from hp.ok I.hok)
    obtain ⟨_, lo', vb, kb, db⟩ := (show ObjOk X.prog X.w H s.heap q' (.dK kvs) from hq.ok I.hok)
    exact eqIn_dicts lo lo' ka kb da db hpl hu
/-- the same, or a copy of a dict, or a pair of such -/
noncomputable def EqV3 (H : Hp) (x y : V) : Prop := EqV H x y ∨ ∃ a b x1 x2 y1 y2, x = .ref a ∧ y = .ref b ∧ H a = some (.tup [x1, x2]) ∧ H b = some (.tup [y1, y2]) ∧ EqV H x1 y1 ∧ EqV H x2 y2
theorem op_eqAl3 {X : Cx} (hu : X.A.units + 64 < cLine) : OpR X (compareOp .Eq) (fun x y H Q => ∃ a b xs ys, x = .ref a ∧ y = .ref b ∧ SqL X.K H a xs ∧ SqL X.K H b ys ∧ xs.length = ys.length ∧ (∀ (i : Nat) x y, xs[i]? = some x → ys[i]? = some y → EqV3 H x y) ∧ Q (.bl true) H) := by
  intro pins s σ H x y v u Q I rx ry h
  obtain ⟨a, b, xs, ys, rfl, rfl, ha, hb, hl, he, q⟩ := h
  cases rx
  cases ry
  obtain ⟨its, r, pl, _⟩ := I.list ha
  obtain ⟨its', r', pl', _⟩ := I.list hb
  have l1 := r.length
  have l2 := r'.length
  refine eqIn_lists pl.isList pl'.isList (by simp; omega) (by omega) (fun j u v => ?_) ⟨.bl true, H, I, rfl, q⟩
  have u' : j < its.length := by simpa using u
  have v' : j < its'.length := by simpa using v
  have hx : xs[j]? = some (xs[j]'(by omega)) := List.getElem?_eq_getElem _
  have hy : ys[j]? = some (ys[j]'(by omega)) := List.getElem?_eq_getElem _
  obtain ⟨z, hz, rz⟩ := r.get hx
  obtain ⟨z', hz', rz'⟩ := r'.get hy
  have e1 : its.toArray[j] = z := by
    have : its[j]? = some its[j] := List.getElem?_eq_getElem u'
    rw [this] at hz; simpa using Option.some.inj hz
  have e2 : its'.toArray[j] = z' := by
    have : its'[j]? = some its'[j] := List.getElem?_eq_getElem v'
    rw [this] at hz'; simpa using Option.some.inj hz'
  rw [e1, e2]
  have k1 : X.A.in1.units = X.A.units + 1 := rfl
  have k2 : X.A.in1.in1.units = X.A.units + 2 := rfl
  rcases he j _ _ hx hy with h | ⟨a', b', x1, x2, y1, y2, e3, e4, ha', hb', h1, h2⟩
  · exact eqIn_of I rz rz' h (by omega)
  · rw [e3] at rz
    rw [e4] at rz'
    cases rz
    cases rz'
    obtain ⟨us, ru, tu, _⟩ := I.tuple (SqT.of ha')
    obtain ⟨ws, rw', tw, _⟩ := I.tuple (SqT.of hb')
    obtain ⟨u1, u2, rfl, r1, r2⟩ := vals2 ru
    obtain ⟨w1, w2, rfl, r3, r4⟩ := vals2 rw'
    exact eqIn_pairs tu tw (eqIn_of I r1 r3 h1 (by omega)) (eqIn_of I r2 r4 h2 (by omega)) (by omega)
theorem qop_eqAl3 {X : Cx} (hu : X.A.units + 64 < cLine) : QOp X (compareOp .Eq) (fun x y H Q => ∃ a b xs ys, x = .ref a ∧ y = .ref b ∧ SqL X.K H a xs ∧ SqL X.K H b ys ∧ xs.length = ys.length ∧ (∀ (i : Nat) x y, xs[i]? = some x → ys[i]? = some y → EqV3 H x y) ∧ Q (.bl true) H) := ⟨op_eqAl3 hu⟩
end L2
--END

set_option maxRecDepth 100000
--BEGIN
namespace RB
open PySem L2 PySem.Spec PyProof.Rows
/-- what the law holds on to while its pool changes -/
structure Hold (p h hg hc h2 g2 c2 rcd r2 wd w2 hd : Addr) (o : Obj) (n : Nat) (gv : Kn) (rc : Rn) (kg kc kr kw : List (Key × V)) (rm : Rm) (H : Hp) : Prop where
  eh : H h = some (.tup [.ref hg, .ref hc])
  eg : H hg = some (.dK kg)
  ec : H hc = some (.dK kc)
  bd : Bld H kg kc n gv rc
  eh2 : H h2 = some (.tup [.ref g2, .ref c2])
  eg2 : H g2 = some (.dK kg)
  ec2 : H c2 = some (.dK kc)
  er : H rcd = some (.dK kr)
  er2 : H r2 = some (.dK kr)
  rD : RecD H kr n rm
  ew : H wd = some (.frz o (.dK kw))
  ew2 : H w2 = some (.dK kw)
  ehd : H hd = some (.lst [.ref h2, .ref r2, .ref w2])
  np : p ∉ [hg, hc, g2, c2, rcd, r2, wd, w2, hd]
section
variable {p h hg hc h2 g2 c2 rcd r2 wd w2 hd : Addr} {o : Obj} {n : Nat} {gv : Kn} {rc : Rn} {kg kc kr kw : List (Key × V)} {rm : Rm} {H H' : Hp}
theorem Hold.but {c : Nat} (a : Hold p h hg hc h2 g2 c2 rcd r2 wd w2 hd o n gv rc kg kc kr kw rm H) (pl : PoolAt H p c) (b : But [p] H H') : Hold p h hg hc h2 g2 c2 rcd r2 wd w2 hd o n gv rc kg kc kr kw rm H' := by
  have t := pl.tups b
  have np := a.np
  simp only [List.mem_cons, List.not_mem_nil, or_false, not_or] at np
  obtain ⟨n1, n2, n3, n4, n5, n6, n7, n8, n9⟩ := np
  have k : ∀ {q : Addr} {u : HO}, p ≠ q → H q = some u → H' q = some u := fun z e => b _ _ (by simpa using Ne.symm z) e
  obtain ⟨rest, mixed, count, ep, _⟩ := pl
  exact ⟨t _ _ a.eh, k n1 a.eg, k n2 a.ec, a.bd.tups t, t _ _ a.eh2, k n3 a.eg2, k n4 a.ec2, k n5 a.er, k n6 a.er2, a.rD.map fun b' q z => z.but b t (fun y hy => .inr fun xs w => by
    have : y = p := by simpa using hy
    rw [this, ep] at w; cases w), k n7 a.ew, k n8 a.ew2, k n9 a.ehd, a.np⟩
theorem Hold.same (a : Hold p h hg hc h2 g2 c2 rcd r2 wd w2 hd o n gv rc kg kc kr kw rm H) (s : Same H H') : Hold p h hg hc h2 g2 c2 rcd r2 wd w2 hd o n gv rc kg kc kr kw rm H' :=
  ⟨s _ _ a.eh, s _ _ a.eg, s _ _ a.ec, a.bd.tups (Same.tups s), s _ _ a.eh2, s _ _ a.eg2, s _ _ a.ec2, s _ _ a.er, s _ _ a.er2, a.rD.map fun b' q z => z.same s, s _ _ a.ew, s _ _ a.ew2, s _ _ a.ehd, a.np⟩
theorem Hold.ho (a : Hold p h hg hc h2 g2 c2 rcd r2 wd w2 hd o n gv rc kg kc kr kw rm H) : HouseG H h hg hc n gv rc := ⟨kg, kc, a.eh, a.eg, a.ec, a.bd⟩
theorem Hold.ho2 (a : Hold p h hg hc h2 g2 c2 rcd r2 wd w2 hd o n gv rc kg kc kr kw rm H) : HouseG H h2 g2 c2 n gv rc := ⟨kg, kc, a.eh2, a.eg2, a.ec2, a.bd⟩
theorem Bld.plG (h : Bld H kg kc n gv rc) : ∀ q ∈ kg, plainV q.2 = true := fun q hq => by
  obtain ⟨gs, cs, k, _, _⟩ := h.k
  obtain ⟨i, hi⟩ := List.getElem?_of_mem hq
  obtain ⟨x, ex, _⟩ := k.at (k := q.1) (v := q.2) hi
  have hv := valV_mem k (k := q.1) (v := q.2) hq
  rw [ex, h.g] at hv
  cases e : gv x with
  | none => rw [e] at hv; cases hv
  | some u => rw [e] at hv; rw [← Option.some.inj hv]; rfl
theorem Bld.plC (h : Bld H kg kc n gv rc) : ∀ q ∈ kc, plainV q.2 = true := fun q hq => by
  obtain ⟨gs, cs, _, k, _⟩ := h.k
  obtain ⟨i, hi⟩ := List.getElem?_of_mem hq
  obtain ⟨x, ex, _⟩ := k.at (k := q.1) (v := q.2) hi
  have hv := valV_mem k (k := q.1) (v := q.2) hq
  rw [ex] at hv
  cases e : rc x with
  | none => rw [h.rn x e] at hv; cases hv
  | some u =>
    obtain ⟨b, hb, _⟩ := h.r x u e
    rw [hb] at hv; rw [← Option.some.inj hv]; rfl
theorem plW {kn : Kn} {kws : List Str} (k : Keys kw kws) (h : ∀ x, valV kw (.inr x) = (kn x).map V.int) : ∀ q ∈ kw, plainV q.2 = true := fun q hq => by
  obtain ⟨i, hi⟩ := List.getElem?_of_mem hq
  obtain ⟨x, ex, _⟩ := k.at (k := q.1) (v := q.2) hi
  have hv := valV_mem k (k := q.1) (v := q.2) hq
  rw [ex, h] at hv
  cases e : kn x with
  | none => rw [e] at hv; cases hv
  | some u => rw [e] at hv; rw [← Option.some.inj hv]; rfl
end
theorem Nic.tups {K : PySem.W.Frag} {H H' : Hp} {v : V} (h : Nic K H v) (s : Tups H H') : Nic K H' v := let ⟨t, a, b⟩ := h; ⟨t, a.tupsN s b, b⟩
theorem nic_nil {K : PySem.W.Frag} {H : Hp} {p : Addr} (e : H p = some (.tup [])) : Nic K H (.ref p) := nic_of e .nil (by simp) (by simp)
theorem nic_nums {K : PySem.W.Frag} {H : Hp} {p a b : Addr} {i j : Int} (e : H p = some (.tup [.str "recipe", .ref a, .ref b])) (ea : H a = some (.tup [.str "number", .int i])) (eb : H b = some (.tup [.str "number", .int j])) : Nic K H (.ref p) :=
  nic_three e (.tup ea (.cons (.str _) (.cons (.int _) .nil))) (ni_num (b := true) (.inr ⟨i, rfl⟩)) (.tup eb (.cons (.str _) (.cons (.int _) .nil))) (ni_num (b := true) (.inr ⟨j, rfl⟩))
end RB
--END

set_option maxHeartbeats 4000000
namespace K32
open PySem L2 PySem.Spec PyProof.Rows RB
local macro_rules | `(tactic| walk_at "ne") => `(tactic| first | assumption | exact Ne.symm (by assumption) | exact ne_of_none (by assumption) (by assumption) | exact Ne.symm (ne_of_none (by assumption) (by assumption)))
local macro_rules | `(tactic| walk_at "heap") => `(tactic| first | assumption | exact upd_same | (refine (upd_ne (by walk_at "ne")).trans ?_; walk_at "heap"))
local macro_rules | `(tactic| walk_at "side") => `(tactic| first | with_reducible rfl | rfl | assumption | exact SqL.of (by walk_at "heap") | exact SqT.of (by walk_at "heap") | exact Or.inl (SqL.of (by walk_at "heap")) | exact Or.inr (SqT.of (by walk_at "heap")) | exact TyOf.str _ | exact TyOf.int _ | exact TyOf.bl _ | exact TyOf.tup (by walk_at "heap") | exact Or.inl ⟨rfl, _, SqL.of (by walk_at "heap")⟩ | exact Or.inl ⟨_, SqL.of (by walk_at "heap"), rfl⟩ | exact kit_same _ | exact Or.inl (by assumption) | exact Or.inr (by assumption) | walk_at "heap" | omega | (show _ ≤ sizeLine; decide) | (show _ < sizeLine; decide) | exact Or.inr ⟨by decide, by decide⟩ | exact Or.inl ⟨by decide, by decide⟩ | exact Or.inl ⟨by omega, by omega⟩ | exact Or.inr ⟨by omega, by omega⟩ | exact ⟨by omega, by decide⟩ | exact ⟨by omega, by assumption⟩ | exact ⟨by decide, by decide, by decide⟩ | exact ⟨_, SqT.of (by walk_at "heap")⟩ | exact ⟨_, SqL.of (by walk_at "heap")⟩ | (intro z; exact absurd (show (1 : Nat) = 0 from z.1) (by decide)) | (show Nat.log2 _ < 9000; decide +kernel) | ((rw [sizeLine_eq]); (try simp only [len_app]); omega) | exact Nat.le_of_lt (small1000 (by (simp only [List.length_cons, List.length_nil]); omega)) | decide +kernel)
local macro_rules | `(tactic| walk_at "v") => `(tactic| first
  | ((apply Exists.intro); (repeat apply Exists.intro); (refine And.intro ?_ ?_); walk_at "side")
  | ((refine And.intro ?_ ?_); walk_at "side"))
local macro_rules | `(tactic| walk_at "vs") => `(tactic| repeat walk_at "v")

noncomputable def top (i : Nat) : Stmt := PySem.Challenge.pw_madeagain_k32_papers_judged.main.body.getD i (.Pass ⟨0, 0, 0, 0⟩)

section
variable {P : Program} {w : World} {K : PySem.W.Frag} {mg : Str → Option Value} {base : Heap}
noncomputable abbrev s_is_whole_number : Stmt := top 1
theorem sc_is_whole_number : FnScope ["thing"] ["thing"] (defScope s_is_whole_number) := ⟨rfl, rfl, rfl, by decide +kernel, rfl, by decide +kernel, by decide +kernel⟩
theorem gl_is_whole_number_isinstance : (defScope s_is_whole_number).names.lookup ("isinstance" : Str) = some NameKind.globalImplicit := by decide +kernel
theorem gl_is_whole_number_bool : (defScope s_is_whole_number).names.lookup ("bool" : Str) = some NameKind.globalImplicit := by decide +kernel
theorem nn_is_whole_number_bool : ("bool" : Str) ≠ "__name__" := by decide +kernel
theorem db_is_whole_number_bool : (("bool" : Str) == ("__debug__" : Str)) = false := by decide +kernel
theorem vo_is_whole_number_thing : VarOk (defScope s_is_whole_number) "thing" := by decide +kernel
theorem nn_is_whole_number_isinstance : ("isinstance" : Str) ≠ "__name__" := by decide +kernel
theorem db_is_whole_number_isinstance : (("isinstance" : Str) == ("__debug__" : Str)) = false := by decide +kernel
theorem gl_is_whole_number_int : (defScope s_is_whole_number).names.lookup ("int" : Str) = some NameKind.globalImplicit := by decide +kernel
theorem nn_is_whole_number_int : ("int" : Str) ≠ "__name__" := by decide +kernel
theorem db_is_whole_number_int : (("int" : Str) == ("__debug__" : Str)) = false := by decide +kernel
theorem ok_is_whole_number {f : Addr} {fd : FuncData} (T_is_whole_number : FnT K mg "is_whole_number" s_is_whole_number ["thing"] f fd) (T : Blt mg) (kd : Kinds K) : FnOk P w K mg base CX0 1 f fd ["thing"] (spWhole K) := by
  refine T_is_whole_number.F.okQ sc_is_whole_number (fun vs H Q E h => ?_) (fun cdv A outer s H vs Q E hr h => ?_)
  · obtain ⟨v, t, rfl, _⟩ := h
    rfl
  obtain ⟨v, t, rfl, ht, q⟩ := h
  refine ⟨_, (qss_one (qs_ret (qe_and (qe_callB qc_isi gl_is_whole_number_isinstance T.b_isinstance bt_isinstance (qa_N (qe_var 0 vo_is_whole_number_thing) (qa_N (qe_bltn (v := .ty "int") gl_is_whole_number_int T.b_int bt_int rfl nn_is_whole_number_int db_is_whole_number_int) qa_nil)) nn_is_whole_number_isinstance db_is_whole_number_isinstance) (qe_one (qe_not (qe_callB qc_isi gl_is_whole_number_isinstance T.b_isinstance bt_isinstance (qa_N (qe_var 0 vo_is_whole_number_thing) (qa_N (qe_bltn (v := .ty "bool") gl_is_whole_number_bool T.b_bool bt_bool rfl nn_is_whole_number_bool db_is_whole_number_bool) qa_nil)) nn_is_whole_number_isinstance db_is_whole_number_isinstance)))))), ?_⟩
  have h1 := ht.ty
  have h2 := ht.isi kd (c := "int") (by simp [tys])
  have h3 := ht.isi kd (c := "bool") (by simp [tys])
  walk_at "vs"
  cases ht with
  | bl b => walk_at "vs"; exact q
  | int i => walk_at "vs"; exact q
  | non => exact q
  | str x => exact q
  | tup e h => exact q
  | oth h hT k => rcases hT with rfl | rfl <;> exact q
noncomputable abbrev s_is_same : Stmt := top 2
theorem sc_is_same : FnScope ["told", "thing"] ["told", "thing"] (defScope s_is_same) := ⟨rfl, rfl, rfl, by decide +kernel, rfl, by decide +kernel, by decide +kernel⟩
theorem gl_is_same_isinstance : (defScope s_is_same).names.lookup ("isinstance" : Str) = some NameKind.globalImplicit := by decide +kernel
theorem gl_is_same_tuple : (defScope s_is_same).names.lookup ("tuple" : Str) = some NameKind.globalImplicit := by decide +kernel
theorem nn_is_same_tuple : ("tuple" : Str) ≠ "__name__" := by decide +kernel
theorem db_is_same_tuple : (("tuple" : Str) == ("__debug__" : Str)) = false := by decide +kernel
theorem vo_is_same_told : VarOk (defScope s_is_same) "told" := by decide +kernel
theorem nn_is_same_isinstance : ("isinstance" : Str) ≠ "__name__" := by decide +kernel
theorem db_is_same_isinstance : (("isinstance" : Str) == ("__debug__" : Str)) = false := by decide +kernel
theorem gl_is_same_len : (defScope s_is_same).names.lookup ("len" : Str) = some NameKind.globalImplicit := by decide +kernel
theorem nn_is_same_len : ("len" : Str) ≠ "__name__" := by decide +kernel
theorem db_is_same_len : (("len" : Str) == ("__debug__" : Str)) = false := by decide +kernel
theorem vo_is_same_thing : VarOk (defScope s_is_same) "thing" := by decide +kernel
theorem gl_is_same_all : (defScope s_is_same).names.lookup ("all" : Str) = some NameKind.globalImplicit := by decide +kernel
theorem gl_is_same_zip : (defScope s_is_same).names.lookup ("zip" : Str) = some NameKind.globalImplicit := by decide +kernel
theorem db_is_same_is_same : (("is_same" : Str) == ("__debug__" : Str)) = false := by decide +kernel
theorem nn_is_same_all : ("all" : Str) ≠ "__name__" := by decide +kernel
theorem db_is_same_all : (("all" : Str) == ("__debug__" : Str)) = false := by decide +kernel
theorem gl_is_same_is_whole_number : (defScope s_is_same).names.lookup ("is_whole_number" : Str) = some NameKind.globalImplicit := by decide +kernel
theorem db_is_same_is_whole_number : (("is_whole_number" : Str) == ("__debug__" : Str)) = false := by decide +kernel
theorem gl_is_same_str : (defScope s_is_same).names.lookup ("str" : Str) = some NameKind.globalImplicit := by decide +kernel
theorem nn_is_same_str : ("str" : Str) ≠ "__name__" := by decide +kernel
theorem db_is_same_str : (("str" : Str) == ("__debug__" : Str)) = false := by decide +kernel
theorem step_is_same {d : Nat} {f g0 : Addr} {fd gd0 : FuncData} (T_is_same : FnT K mg "is_same" s_is_same ["told", "thing"] f fd) (G_is_same : FnOk P w K mg base CX0 (d + 1) f fd ["told", "thing"] (fun vs H Q E => 0 < d ∧ spSame K (d - 1) vs H Q E))
    (T_is_whole_number : FnT K mg "is_whole_number" s_is_whole_number ["thing"] g0 gd0) (G_is_whole_number : FnOk P w K mg base CX0 1 g0 gd0 ["thing"] (spWhole K)) (T : Blt mg) (kd : Kinds K) :
    FnOk P w K mg base CX0 (d + 2) f fd ["told", "thing"] (spSame K d) := by
  refine T_is_same.F.okQ sc_is_same (fun vs H Q E h => ?_) (fun cdv A outer s H vs Q E hr h => ?_)
  · obtain ⟨v, t, v', t', rfl, _⟩ := h
    rfl
  obtain ⟨v, t, v', t', rfl, ht, hu, hd, q⟩ := h
  refine ⟨_, (qss_cons (qs_if (qt_val (qe_callB qc_isi gl_is_same_isinstance T.b_isinstance bt_isinstance (qa_N (qe_var 0 vo_is_same_told) (qa_N (qe_bltn (v := .ty "tuple") gl_is_same_tuple T.b_tuple bt_tuple rfl nn_is_same_tuple db_is_same_tuple) qa_nil)) nn_is_same_isinstance db_is_same_isinstance)) (qss_cons (qs_if (qt_w (qw_or (qt_not (qt_val (qe_callB qc_isi gl_is_same_isinstance T.b_isinstance bt_isinstance (qa_N (qe_var 1 vo_is_same_thing) (qa_N (qe_bltn (v := .ty "tuple") gl_is_same_tuple T.b_tuple bt_tuple rfl nn_is_same_tuple db_is_same_tuple) qa_nil)) nn_is_same_isinstance db_is_same_isinstance))) (qw_or1 (qt_cmp qop_ne (qe_callB qc_len_seq gl_is_same_len T.b_len bt_len (qa_N (qe_var 0 vo_is_same_told) qa_nil) nn_is_same_len db_is_same_len) (qe_callB qc_len_seq gl_is_same_len T.b_len bt_len (qa_N (qe_var 1 vo_is_same_thing) qa_nil) nn_is_same_len db_is_same_len) (nomarkQ _))))) (qss_one (qs_ret qe_bl)) qss_nil)
    (qss_one (qs_ret (qe_callB (qc_allB rfl) gl_is_same_all T.b_all bt_all (qa_M (qe_comp rfl (n := 2) (fr := []) (N := ["part", "other"]) (cs_mk (scX := defScope s_is_same) (NX := ["told", "thing"]) rfl rfl (by decide +kernel)) (qi_zipT gl_is_same_zip T.b_zip (qa_N (qe_var 0 vo_is_same_told) (qa_N (qe_var 1 vo_is_same_thing) qa_nil))) (fun _ _ _ _ _ => (qg_tupK (K := K) (n := 2) rfl rfl (qgs_cons (qgx (i := 0) (show List.Nodup (α := Str) ["part", "other"] by decide) (locC (by decide +kernel))) (qgs_cons (qgx (i := 1) (show List.Nodup (α := Str) ["part", "other"] by decide) (locC (by decide +kernel))) qgs_nil)))) (fun _ _ _ _ _ => qi_nil) (fun _ _ _ _ _ => (qe_call (G_is_same.mono (by omega)) hr (glC (by decide +kernel)) T_is_same.m T_is_same.F.kp T_is_same.b .nil pass0 (qa_N (qe_var 0 (VarC.ok (by decide +kernel))) (qa_N (qe_var 1 (VarC.ok (by decide +kernel))) qa_nil)) db_is_same_is_same))) qa_nil) nn_is_same_all db_is_same_all)))) qss_nil)
    (qss_cons (qs_if (qt_val (qe_call (G_is_whole_number.mono (by omega)) hr gl_is_same_is_whole_number T_is_whole_number.m T_is_whole_number.F.kp T_is_whole_number.b .nil pass0 (qa_N (qe_var 0 vo_is_same_told) qa_nil) db_is_same_is_whole_number)) (qss_one (qs_ret (qe_and (qe_call (G_is_whole_number.mono (by omega)) hr gl_is_same_is_whole_number T_is_whole_number.m T_is_whole_number.F.kp T_is_whole_number.b .nil pass0 (qa_N (qe_var 1 vo_is_same_thing) qa_nil) db_is_same_is_whole_number) (qe_one (qe_cmp qop_eq (qe_var 0 vo_is_same_told) (qe_var 1 vo_is_same_thing) (nomarkQ _)))))) qss_nil)
    (qss_one (qs_ret (qe_and (qe_callB qc_isi gl_is_same_isinstance T.b_isinstance bt_isinstance (qa_N (qe_var 0 vo_is_same_told) (qa_N (qe_bltn (v := .ty "str") gl_is_same_str T.b_str bt_str rfl nn_is_same_str db_is_same_str) qa_nil)) nn_is_same_isinstance db_is_same_isinstance) (qe_and (qe_callB qc_isi gl_is_same_isinstance T.b_isinstance bt_isinstance (qa_N (qe_var 1 vo_is_same_thing) (qa_N (qe_bltn (v := .ty "str") gl_is_same_str T.b_str bt_str rfl nn_is_same_str db_is_same_str) qa_nil)) nn_is_same_isinstance db_is_same_isinstance) (qe_one (qe_cmp qop_eq (qe_var 0 vo_is_same_told) (qe_var 1 vo_is_same_thing) (nomarkQ _))))))))), ?_⟩
  have h1 := ht.ty
  have h2 := ht.isi kd (c := "tuple") (by simp [tys])
  have h3 := ht.isi kd (c := "str") (by simp [tys])
  have g1 := hu.ty
  have g2 := hu.isi kd (c := "tuple") (by simp [tys])
  have g3 := hu.isi kd (c := "str") (by simp [tys])
  walk_at "vs"
  have ht2 := ht
  cases ht2 with
  | @tup a vs ts ea ha =>
    have ct : subT (tyTh (.tup ts)) "tuple" = true := rfl
    rw [ct]
    walk_at "vs"
    have hu2 := hu
    cases hu2 with
    | @tup b us rs eb hb =>
      have cu : subT (tyTh (.tup rs)) "tuple" = true := rfl
      rw [cu]
      walk_at "vs"
      have l1 := ha.length
      have l2 := hb.length
      by_cases hl : vs.length = us.length
      · refine itB_f (by rw [hl]; simp) ?_
        walk_at "vs"
        intro D hD
        have hd0 : 0 < d := by
          cases d with
          | zero => exact absurd hd (by simp [DpT])
          | succ d => omega
        obtain ⟨d, rfl⟩ : ∃ e, d = e + 1 := ⟨d - 1, by omega⟩
        obtain ⟨hd1, hd2⟩ : ts.length ≤ 1000 ∧ ∀ t ∈ ts, DpT d t := hd
        have nDa : a ≠ D := fun z => by rw [z, hD] at ea; cases ea
        have nDb : b ≠ D := fun z => by rw [z, hD] at eb; cases eb
        refine comp_zipT (fun i σ' H' => (∃ t1 t2, σ' = [t1, t2]) ∧ H' D = some (.lst (((List.zipWith sameT ts rs).take i).map V.bl)) ∧ Same H H') hl ?_ ?_ ?_ ?_
        · exact ⟨⟨none, none, rfl⟩, upd_same, same_new _ hD⟩
        · intro i σ' H' hi hP
          exact ⟨SqT.of (hP.2.2 _ _ ea), SqT.of (hP.2.2 _ _ eb)⟩
        · intro i x y T0 σ' H' hx hy hP hT
          obtain ⟨⟨t1, t2, rfl⟩, eD, kp⟩ := hP
          obtain ⟨hi1, tx⟩ := ha.at hx
          obtain ⟨hi2, ty⟩ := hb.at hy
          have S0 := kp.trans (same_new (.tup [x, y]) hT)
          have tx0 := tx.same S0
          have ty0 := ty.same S0
          have dx := hd2 _ (List.getElem_mem hi1)
          have eT : upd H' T0 (.tup [x, y]) T0 = some (.tup [x, y]) := upd_same
          have eD0 := (same_new (.tup [x, y]) hT) _ _ eD
          generalize upd H' T0 (.tup [x, y]) = H0 at *
          walk_at "vs"
          intro H5 S5
          have eD5 := S5 _ _ eD0
          refine ⟨_, eD5, ?_, ⟨_, _, rfl⟩, ?_, ?_⟩
          · rw [List.length_map, List.length_take]; exact small1000 (by omega)
          · rw [upd_same, ← zipW_take sameT hi1 hi2, List.map_append]; rfl
          · exact same_updN _ hD (S0.trans S5)
        · intro σ' H' hP
          obtain ⟨_, eD, kp⟩ := hP
          rw [List.take_of_length_le (by simp; omega)] at eD
          have eq : sameT (.tup ts) (.tup rs) = ((List.zipWith sameT ts rs).all id) := by rw [sameT]; exact sameTs_zip (by omega)
          rw [eq] at q
          walk_at "vs"
          exact q _ kp
      · refine itB_t (by simp; omega) ?_
        rw [show sameT (.tup ts) (.tup rs) = false from by rw [sameT]; exact sameTs_len (by omega)] at q
        walk_at "vs"
        exact q _ (Same.refl _)
    | non => walk_at "vs"; exact q _ (Same.refl _)
    | bl b => walk_at "vs"; exact q _ (Same.refl _)
    | int i => walk_at "vs"; exact q _ (Same.refl _)
    | str x => walk_at "vs"; exact q _ (Same.refl _)
    | oth h hT k => rcases hT with rfl | rfl <;> walk_at "vs" <;> exact q _ (Same.refl _)
  | non => walk_at "vs"; exact q _ (Same.refl _)
  | bl b => walk_at "vs"; exact q _ (Same.refl _)
  | int i =>
    walk_at "vs"
    have hu2 := hu
    cases hu2 with
    | int j =>
      have ej : sameT (.int i) (.int j) = decide (V.int i = V.int j) := by simp [sameT]
      rw [ej] at q
      walk_at "vs"; exact q _ (Same.refl _)
    | non => walk_at "vs"; exact q _ (Same.refl _)
    | bl b => walk_at "vs"; exact q _ (Same.refl _)
    | str x => walk_at "vs"; exact q _ (Same.refl _)
    | tup e h => walk_at "vs"; exact q _ (Same.refl _)
    | oth h hT k => rcases hT with rfl | rfl <;> walk_at "vs" <;> exact q _ (Same.refl _)
  | str x =>
    walk_at "vs"
    have hu2 := hu
    cases hu2 with
    | str y =>
      have ej : sameT (.str x) (.str y) = decide (V.str x = V.str y) := by simp [sameT]
      rw [ej] at q
      walk_at "vs"; exact q _ (Same.refl _)
    | non => walk_at "vs"; exact q _ (Same.refl _)
    | bl b => walk_at "vs"; exact q _ (Same.refl _)
    | int j => walk_at "vs"; exact q _ (Same.refl _)
    | tup e h => walk_at "vs"; exact q _ (Same.refl _)
    | oth h hT k => rcases hT with rfl | rfl <;> walk_at "vs" <;> exact q _ (Same.refl _)
  | oth h hT k => rcases hT with rfl | rfl <;> walk_at "vs" <;> exact q _ (Same.refl _)
theorem ok_is_same {f g0 : Addr} {fd gd0 : FuncData} (T_is_same : FnT K mg "is_same" s_is_same ["told", "thing"] f fd)
    (T_is_whole_number : FnT K mg "is_whole_number" s_is_whole_number ["thing"] g0 gd0) (G_is_whole_number : FnOk P w K mg base CX0 1 g0 gd0 ["thing"] (spWhole K)) (T : Blt mg) (kd : Kinds K) :
    ∀ d, FnOk P w K mg base CX0 (d + 2) f fd ["told", "thing"] (spSame K d)
  | 0 => step_is_same T_is_same (never fun vs H Q E h => absurd h.1 (by omega)) T_is_whole_number G_is_whole_number T kd
  | d + 1 => step_is_same T_is_same ((ok_is_same T_is_same T_is_whole_number G_is_whole_number T kd d).imp fun vs H Q E h => h.2) T_is_whole_number G_is_whole_number T kd
end

section
variable {P : Program} {w : World} {K : PySem.W.Frag} {mg : Str → Option Value} {base : Heap}
noncomputable abbrev s_law_cell_at : Stmt := top 7
theorem sc_law_cell_at : FnScope ["script", "k"] ["script", "k"] (defScope s_law_cell_at) := ⟨rfl, rfl, rfl, by decide +kernel, rfl, by decide +kernel, by decide +kernel⟩
theorem vo_law_cell_at_k : VarOk (defScope s_law_cell_at) "k" := by decide +kernel
theorem gl_law_cell_at_len : (defScope s_law_cell_at).names.lookup ("len" : Str) = some NameKind.globalImplicit := by decide +kernel
theorem vo_law_cell_at_script : VarOk (defScope s_law_cell_at) "script" := by decide +kernel
theorem nn_law_cell_at_len : ("len" : Str) ≠ "__name__" := by decide +kernel
theorem db_law_cell_at_len : (("len" : Str) == ("__debug__" : Str)) = false := by decide +kernel
theorem ok_law_cell_at {f : Addr} {fd : FuncData} (T_law_cell_at : FnT K mg "_law_cell_at" s_law_cell_at ["script", "k"] f fd) (T : Blt mg) : FnOk P w K mg base CX0 1 f fd ["script", "k"] (spCell K) := by
  refine T_law_cell_at.F.okQ sc_law_cell_at (fun vs H Q E h => ?_) (fun cdv A outer s H vs Q E hr h => ?_)
  · obtain ⟨a, ns, k, rfl, _⟩ := h
    rfl
  obtain ⟨a, ns, k, rfl, hS, h0, q⟩ := h
  refine ⟨_, (qss_cons (qs_if (qt_cmp qop_lt (qe_var 1 vo_law_cell_at_k) (qe_callB qc_len_seq gl_law_cell_at_len T.b_len bt_len (qa_N (qe_var 0 vo_law_cell_at_script) qa_nil) nn_law_cell_at_len db_law_cell_at_len) (nomarkQ _)) (qss_one (qs_ret (qe_ix qix_list (qe_var 0 vo_law_cell_at_script) (qe_var 1 vo_law_cell_at_k)))) qss_nil)
    (qss_one (qs_ret qe_int))), ?_⟩
  walk_at "vs"
  refine ite2 (fun c1 => ?_) (fun c1 => ?_)
  · have c1' : k < ((ns.map V.int).length : Int) := by simpa using c1
    obtain ⟨v, j, hv, _⟩ := at_ok h0 c1'
    walk_at "vs"
    exact q _
  · walk_at "vs"
    exact q _
noncomputable abbrev s_law_pool : Stmt := top 8
theorem sc_law_pool : FnScope ["script", "k"] ["script", "k"] (defScope s_law_pool) := ⟨rfl, rfl, rfl, by decide +kernel, rfl, by decide +kernel, by decide +kernel⟩
theorem vo_law_pool_k : VarOk (defScope s_law_pool) "k" := by decide +kernel
theorem gl_law_pool__law_cell_at : (defScope s_law_pool).names.lookup ("_law_cell_at" : Str) = some NameKind.globalImplicit := by decide +kernel
theorem vo_law_pool_script : VarOk (defScope s_law_pool) "script" := by decide +kernel
theorem db_law_pool__law_cell_at : (("_law_cell_at" : Str) == ("__debug__" : Str)) = false := by decide +kernel
theorem ok_law_pool {f g : Addr} {fd gd : FuncData} (T_law_pool : FnT K mg "_law_pool" s_law_pool ["script", "k"] f fd) (T_law_cell_at : FnT K mg "_law_cell_at" s_law_cell_at ["script", "k"] g gd) (G_law_cell_at : FnOk P w K mg base CX0 1 g gd ["script", "k"] (spCell K)) (T : Blt mg) :
    FnOk P w K mg base CX0 2 f fd ["script", "k"] (spPool K) := by
  refine T_law_pool.F.okQ sc_law_pool (fun vs H Q E h => ?_) (fun cdv A outer s H vs Q E hr h => ?_)
  · obtain ⟨a, ns, k, rfl, _⟩ := h
    rfl
  obtain ⟨a, ns, k, rfl, hS, h0, h1, q⟩ := h
  refine ⟨_, (qss_one (qs_ret (qe_disp (qp_cons qe_str (qe_call (G_law_cell_at.mono (by omega)) hr gl_law_pool__law_cell_at T_law_cell_at.m T_law_cell_at.F.kp T_law_cell_at.b .nil pass0 (qa_N (qe_var 0 vo_law_pool_script) (qa_N (qe_var 1 vo_law_pool_k) qa_nil)) db_law_pool__law_cell_at) (qp_cons qe_str (qe_cmp qop_eq (qe_op qop_mod (qe_call (G_law_cell_at.mono (by omega)) hr gl_law_pool__law_cell_at T_law_cell_at.m T_law_cell_at.F.kp T_law_cell_at.b .nil pass0 (qa_N (qe_var 0 vo_law_pool_script) (qa_C qe_int qa_nil)) db_law_pool__law_cell_at) qe_int) qe_int (nomarkQ _)) (qp_cons qe_str (qe_op qop_add qe_int (qe_op qop_mul qe_int (qe_var 1 vo_law_pool_k))) qp_nil)))))), ?_⟩
  walk_at "vs"
  intro p hp
  have s1 := same_new (.dK []) hp
  have hS1 := SqL.same s1 hS
  have e1 : upd H p (.dK []) p = some (.dK []) := upd_same
  generalize upd H p (.dK []) = H1 at *
  walk_at "vs"
  intro n1
  walk_at "vs"
  intro n2
  walk_at "vs"
  refine ⟨poolD n1 (decide (V.int (n2 % 2) = V.int 1)) (3 + 5 * k), rfl, by show 3 ≤ 15; decide, ?_⟩
  have em : mergeK [] (poolD n1 (decide (V.int (n2 % 2) = V.int 1)) (3 + 5 * k)) = poolD n1 (decide (V.int (n2 % 2) = V.int 1)) (3 + 5 * k) := rfl
  rw [em]
  exact q p _ (same_updN _ hp s1) hp ⟨_, _, _, upd_same, by omega, by omega⟩
noncomputable abbrev s_law_take : Stmt := top 9
theorem sc_law_take : FnScope ["pool", "many", "rest"] ["pool", "many"] (defScope s_law_take) := ⟨rfl, rfl, rfl, by decide +kernel, rfl, by decide +kernel, by decide +kernel⟩
theorem lo_law_take_rest : Loc (defScope s_law_take) "rest" := by decide +kernel
theorem vo_law_take_pool : VarOk (defScope s_law_take) "pool" := by decide +kernel
theorem vo_law_take_rest : VarOk (defScope s_law_take) "rest" := by decide +kernel
theorem vo_law_take_many : VarOk (defScope s_law_take) "many" := by decide +kernel
theorem ok_law_take {f : Addr} {fd : FuncData} (T_law_take : FnT K mg "_law_take" s_law_take ["pool", "many"] f fd) (T : Blt mg) : FnOk P w K mg base CX0 1 f fd ["pool", "many"] spTake := by
  refine T_law_take.F.okQ sc_law_take (fun vs H Q E h => ?_) (fun cdv A outer s H vs Q E hr h => ?_)
  · obtain ⟨p, c, many, rfl, _⟩ := h
    rfl
  obtain ⟨p, c, many, rfl, ⟨rest, mixed, count, e, h0, h1⟩, hc, hm, hlg, q⟩ := h
  refine ⟨_, (qss_cons (qs_set (i := 2) sc_law_take.nd rfl lo_law_take_rest (qe_dget (hu_of hr) (qe_var 0 vo_law_take_pool) qe_str))
    (qss_cons (qs_if (qt_not (qt_val (qe_dget (hu_of hr) (qe_var 0 vo_law_take_pool) qe_str))) (qss_cons (qs_dput (hu_of hr) (qe_var 0 vo_law_take_pool) qe_str (qe_op qop_fdiv (qe_var 2 vo_law_take_rest) (qe_var 1 vo_law_take_many)))
    (qss_one (qs_ret (qe_op qop_mod (qe_var 2 vo_law_take_rest) (qe_var 1 vo_law_take_many))))) qss_nil)
    (qss_cons (qs_dput (hu_of hr) (qe_var 0 vo_law_take_pool) qe_str (qe_op qop_add (qe_dget (hu_of hr) (qe_var 0 vo_law_take_pool) qe_str) qe_int))
    (qss_cons (qs_set (i := 2) sc_law_take.nd rfl lo_law_take_rest (qe_op qop_add (qe_op qop_mod (qe_var 2 vo_law_take_rest) qe_int) (qe_op qop_mul qe_int (qe_dget (hu_of hr) (qe_var 0 vo_law_take_pool) qe_str))))
    (qss_cons (qs_set (i := 2) sc_law_take.nd rfl lo_law_take_rest (qe_op qop_mod (qe_op qop_mul (qe_var 2 vo_law_take_rest) (qe_op qop_add (qe_var 2 vo_law_take_rest) qe_int)) qe_int))
    (qss_cons (qs_set (i := 2) sc_law_take.nd rfl lo_law_take_rest (qe_op qop_mod (qe_op qop_mul (qe_var 2 vo_law_take_rest) (qe_var 2 vo_law_take_rest)) qe_int))
    (qss_cons (qs_dput (hu_of hr) (qe_var 0 vo_law_take_pool) qe_str (qe_var 2 vo_law_take_rest))
    (qss_one (qs_ret (qe_op qop_mod (qe_op qop_fdiv (qe_var 2 vo_law_take_rest) qe_int) (qe_var 1 vo_law_take_many))))))))))), ?_⟩
  have d1 := pool_rest e
  have d2 := pool_mixed e
  have d3 := pool_count e
  walk_at "vs"
  cases mixed with
  | false =>
    walk_at "vs"
    refine And.intro (pool_put_rest e _) ?_
    walk_at "vs"
    exact q _ _ (Int.emod_nonneg _ (by omega)) (Int.emod_lt_of_pos _ hm) (But.set _ (by simp)) ⟨_, _, _, upd_same, h0, by omega⟩
  | true =>
    walk_at "vs"
    refine And.intro (pool_put_count e _) ?_
    have e2 : upd H p (.dK (poolD rest true (count + 1))) p = some (.dK (poolD rest true (count + 1))) := upd_same
    have b2 : But [p] H (upd H p (.dK (poolD rest true (count + 1)))) := But.set _ (by simp)
    clear d1 d2 d3
    generalize upd H p (.dK (poolD rest true (count + 1))) = H2 at *
    have d1 := pool_rest e2
    have d3 := pool_count e2
    have r0 := Int.emod_nonneg rest (show (1000000000163 : Int) ≠ 0 by decide)
    have r1 := Int.emod_lt_of_pos rest (show (0 : Int) < 1000000000163 by decide)
    have m1 : CMul 70001 (count + 1) := .inl ⟨by decide, by decide⟩
    have m2 : CMul (rest % 1000000000163 + 70001 * (count + 1)) (rest % 1000000000163 + 70001 * (count + 1) + 29) := .inl ⟨by omega, by omega⟩
    have z1 := Int.emod_nonneg ((rest % 1000000000163 + 70001 * (count + 1)) * (rest % 1000000000163 + 70001 * (count + 1) + 29)) (show (1000000000193 : Int) ≠ 0 by decide)
    have z2 := Int.emod_lt_of_pos ((rest % 1000000000163 + 70001 * (count + 1)) * (rest % 1000000000163 + 70001 * (count + 1) + 29)) (show (0 : Int) < 1000000000193 by decide)
    walk_at "vs"
    refine And.intro (pool_put_rest e2 _) ?_
    walk_at "vs"
    exact q _ _ (Int.emod_nonneg _ (by omega)) (Int.emod_lt_of_pos _ hm) (b2.trans (But.set _ (by simp))) ⟨_, _, _, upd_same, by omega, by omega⟩
noncomputable abbrev s_law_name : Stmt := top 10
theorem sc_law_name : FnScope ["k", "letters"] ["k"] (defScope s_law_name) := ⟨rfl, rfl, rfl, by decide +kernel, rfl, by decide +kernel, by decide +kernel⟩
theorem lo_law_name_letters : Loc (defScope s_law_name) "letters" := by decide +kernel
theorem vo_law_name_letters : VarOk (defScope s_law_name) "letters" := by decide +kernel
theorem vo_law_name_k : VarOk (defScope s_law_name) "k" := by decide +kernel
theorem ok_law_name {f : Addr} {fd : FuncData} (T_law_name : FnT K mg "_law_name" s_law_name ["k"] f fd) (T : Blt mg) : FnOk P w K mg base CX0 1 f fd ["k"] spLaName := by
  refine T_law_name.F.okQ sc_law_name (fun vs H Q E h => ?_) (fun cdv A outer s H vs Q E hr h => ?_)
  · obtain ⟨k, rfl, _⟩ := h
    rfl
  obtain ⟨k, rfl, hk, q⟩ := h
  refine ⟨_, (qss_cons (qs_set (i := 1) sc_law_name.nd rfl lo_law_name_letters qe_str)
    (qss_one (qs_ret (qe_op qop_add_str (qe_ix qix_str (qe_var 1 vo_law_name_letters) (qe_op qop_mod (qe_var 0 vo_law_name_k) qe_int)) (qe_op qop_mul0 (qe_ix qix_str (qe_var 1 vo_law_name_letters) (qe_op qop_mod (qe_op qop_mul (qe_var 0 vo_law_name_k) qe_int) qe_int)) (qe_op qop_mod (qe_op qop_mul (qe_var 0 vo_law_name_k) qe_int) qe_int)))))), ?_⟩
  have l1 := ltr_at (n := (k : Int) % 26) (i := k % 26) (by omega) (by omega)
  have l2 := ltr_at (n := (k : Int) * 7 % 26) (i := k * 7 % 26) (by omega) (by omega)
  have zl : ("abcdefghijklmnopqrstuvwxyz" : Str).length ≤ sizeLine := by decide +kernel
  have m1 : CMul (k : Int) 7 := .inr ⟨by decide, by decide⟩
  have m2 : CMul (k : Int) 5 := .inr ⟨by decide, by decide⟩
  have n0 : 0 ≤ (k : Int) * 5 % 8 := by omega
  have n1 : (k : Int) * 5 % 8 ≤ 1000 := by omega
  have o1 : (⟨#[k * 7 % 26 + 97]⟩ : Str).length ≤ 1000 := by show 1 ≤ 1000; decide
  have en : ((k : Int) * 5 % 8).toNat = k * 5 % 8 := by omega
  have q' : Q (.str (ltr (k % 26) ++ repS (ltr (k * 7 % 26)) ((k : Int) * 5 % 8).toNat)) H := by rw [en]; exact q
  have zz : (⟨#[k % 26 + 97]⟩ : Str).length + (repS (⟨#[k * 7 % 26 + 97]⟩ : Str) ((k : Int) * 5 % 8).toNat).length ≤ sizeLine := by
    rw [rep_len, en, sizeLine_eq]
    show 1 + k * 5 % 8 * 1 ≤ _
    omega
  walk_at "vs"
  exact q'
end

section
variable {P : Program} {w : World} {K : PySem.W.Frag} {mg : Str → Option Value} {base : Heap}
noncomputable abbrev s_law_leaf : Stmt := top 11
theorem sc_law_leaf : FnScope ["pool", "names"] ["pool", "names"] (defScope s_law_leaf) := ⟨rfl, rfl, rfl, by decide +kernel, rfl, by decide +kernel, by decide +kernel⟩
theorem gl_law_leaf__law_take : (defScope s_law_leaf).names.lookup ("_law_take" : Str) = some NameKind.globalImplicit := by decide +kernel
theorem vo_law_leaf_pool : VarOk (defScope s_law_leaf) "pool" := by decide +kernel
theorem db_law_leaf__law_take : (("_law_take" : Str) == ("__debug__" : Str)) = false := by decide +kernel
theorem vo_law_leaf_names : VarOk (defScope s_law_leaf) "names" := by decide +kernel
theorem gl_law_leaf_len : (defScope s_law_leaf).names.lookup ("len" : Str) = some NameKind.globalImplicit := by decide +kernel
theorem nn_law_leaf_len : ("len" : Str) ≠ "__name__" := by decide +kernel
theorem db_law_leaf_len : (("len" : Str) == ("__debug__" : Str)) = false := by decide +kernel
theorem ok_law_leaf {f g : Addr} {fd gd : FuncData} (T_law_leaf : FnT K mg "_law_leaf" s_law_leaf ["pool", "names"] f fd) (T_law_take : FnT K mg "_law_take" s_law_take ["pool", "many"] g gd) (G_law_take : FnOk P w K mg base CX0 1 g gd ["pool", "many"] spTake) (T : Blt mg) :
    FnOk P w K mg base CX0 2 f fd ["pool", "names"] sp3Lf := by
  refine T_law_leaf.F.okQ sc_law_leaf (fun vs H Q E h => ?_) (fun cdv A outer s H vs Q E hr h => ?_)
  · obtain ⟨p, l, c, ns, rfl, _⟩ := h
    rfl
  obtain ⟨p, l, c, ns, rfl, hp, hc, el, hn1, hn9, hg, q⟩ := h
  refine ⟨_, (qss_cons (qs_if (qt_w (qw_or (qt_cmp (qop_eqD hr.units) (qe_var 1 vo_law_leaf_names) (qe_lst qa_nil) (nomarkQ _)) (qw_or1 (qt_cmp qop_eq (qe_call (G_law_take.mono (by omega)) hr gl_law_leaf__law_take T_law_take.m T_law_take.F.kp T_law_take.b .nil pass0 (qa_N (qe_var 0 vo_law_leaf_pool) (qa_C qe_int qa_nil)) db_law_leaf__law_take) qe_int (nomarkQ _))))) (qss_one (qs_ret (qe_tup (qa_C qe_str (qa_S (qe_ix qix_list (qe_lst (qa_B (qe_op qop_sub (qe_call (G_law_take.mono (by omega)) hr gl_law_leaf__law_take T_law_take.m T_law_take.F.kp T_law_take.b .nil pass0 (qa_N (qe_var 0 vo_law_leaf_pool) (qa_C qe_int qa_nil)) db_law_leaf__law_take) qe_int) (qa_B (qe_op qop_sub (qe_call (G_law_take.mono (by omega)) hr gl_law_leaf__law_take T_law_take.m T_law_take.F.kp T_law_take.b .nil pass0 (qa_N (qe_var 0 vo_law_leaf_pool) (qa_B (qe_op qop_pow qe_int qe_int) qa_nil)) db_law_leaf__law_take) (qe_op qop_pow qe_int qe_int)) qa_nil))) (qe_call (G_law_take.mono (by omega)) hr gl_law_leaf__law_take T_law_take.m T_law_take.F.kp T_law_take.b .nil pass0 (qa_N (qe_var 0 vo_law_leaf_pool) (qa_C qe_int qa_nil)) db_law_leaf__law_take)) qa_nil))))) qss_nil)
    (qss_one (qs_ret (qe_tup (qa_C qe_str (qa_S (qe_ix qix_list (qe_var 1 vo_law_leaf_names) (qe_call (G_law_take.mono (by omega)) hr gl_law_leaf__law_take T_law_take.m T_law_take.F.kp T_law_take.b .nil pass0 (qa_N (qe_var 0 vo_law_leaf_pool) (qa_F (qe_callB qc_len_seq gl_law_leaf_len T.b_len bt_len (qa_N (qe_var 1 vo_law_leaf_names) qa_nil) nn_law_leaf_len db_law_leaf_len) qa_nil)) db_law_leaf__law_take)) qa_nil)))))), ?_⟩
  have nlp := hp.nel el
  have cp1 : CPow 10 20 := ⟨by decide, by decide, by decide⟩
  have cp2 : CPow 10 19 := ⟨by decide, by decide, by decide⟩
  have p20 : (10 : Int) ^ (20 : Int).toNat = 100000000000000000000 := by decide +kernel
  have p19 : (10 : Int) ^ (19 : Int).toNat = 10000000000000000000 := by decide +kernel
  have hq0 : 0 < (10 : Int) ^ (20 : Int).toNat := by rw [p20]; omega
  have hql : ((10 : Int) ^ (20 : Int).toNat).natAbs.log2 < 9000 := by rw [p20]; decide +kernel
  walk_at "vs"
  intro pe hpe
  have npe : pe ∉ [p] := fun z => hp.ne hpe (by simpa using z)
  have S1 := same_new (.lst []) hpe
  have B1 : But [p] H (upd H pe (.lst [])) := But.of_same S1
  have pl1 := hp.same S1
  have el1 := S1 _ _ el
  have e1 : upd H pe (.lst []) pe = some (.lst []) := upd_same
  generalize upd H pe (.lst []) = H1 at *
  refine ⟨_, _, .lst (SqL.of el1) (datVs_strs _), .lst (SqL.of e1) .nil, shaped_nms hg, by decide, ?_⟩
  rw [eqv_nms hn1]
  walk_at "vs"
  intro n2 H2 n20 n21 b2 pl2
  have B2 := B1.trans b2
  have el2 := B2 _ _ nlp el
  walk_at "vs"
  refine ite2 (fun c1 => ?_) (fun c1 => ?_)
  · walk_at "vs"
    intro n3 H3 n30 n31 b3 pl3
    walk_at "vs"
    intro n4 H4 n40 n41 b4 pl4
    have n41' : n4 < (10 : Int) ^ (20 : Int).toNat := n41
    rw [p20] at n41'
    have B4 := B2.trans (b3.trans b4)
    walk_at "vs"
    intro ps hps
    have nps : ps ∉ [p] := fun z => pl4.ne hps (by simpa using z)
    have hps0 := but_none B4 hps nps
    have S5 := same_new (.lst [V.int (n3 - 4), V.int (n4 - (10 : Int) ^ (19 : Int).toNat)]) hps
    have e5 : upd H4 ps (.lst [V.int (n3 - 4), V.int (n4 - (10 : Int) ^ (19 : Int).toNat)]) ps = some (.lst [V.int (n3 - 4), V.int (n4 - 10000000000000000000)]) := by rw [p19]; exact upd_same
    have B5 : But [p] H (upd H4 ps (.lst [V.int (n3 - 4), V.int (n4 - (10 : Int) ^ (19 : Int).toNat)])) := B4.upd _ hps0
    have pl5 := pl4.same S5
    generalize upd H4 ps (.lst [V.int (n3 - 4), V.int (n4 - (10 : Int) ^ (19 : Int).toNat)]) = H5 at *
    walk_at "vs"
    intro n6 H6 n60 n61 b6 pl6
    have B6 := B5.trans b6
    have e6 := b6 _ _ nps e5
    obtain ⟨v, hv, hv1⟩ : ∃ v : Int, atI [V.int (n3 - 4), V.int (n4 - 10000000000000000000)] n6 = some (.int v) ∧ v.natAbs < 10 ^ 40 := by
      have : n6 = 0 ∨ n6 = 1 := by omega
      rcases this with rfl | rfl
      · exact ⟨n3 - 4, rfl, by omega⟩
      · exact ⟨n4 - 10000000000000000000, rfl, by omega⟩
    walk_at "vs"
    intro p8 hp8
    have hp80 := but_none B6 hp8 (fun z => pl6.ne hp8 (by simpa using z))
    exact q p8 (.num v) _ (B6.upd _ hp80) ((pl6.same (same_new _ hp8)).mono (by omega)) (.num upd_same) ⟨hv1, trivial, trivial, Nat.le_refl _⟩
  · have hlm : (ns.map V.str).length = ns.length := List.length_map _
    have hl0 : 0 < ((ns.map V.str).length : Int) := by rw [hlm]; omega
    have hlog : ((ns.map V.str).length : Int).natAbs.log2 < 9000 := by
      rw [hlm]
      exact Nat.lt_of_le_of_lt (Nat.log2_le_self _) (by omega)
    walk_at "vs"
    intro n6 H8 n60 n61 b8 pl8
    have B8 := B2.trans b8
    have el8 := B8 _ _ nlp el
    obtain ⟨x, hx, hxm⟩ : ∃ x, atI (ns.map V.str) n6 = some (.str x) ∧ x ∈ ns := by
      obtain ⟨j, rfl⟩ := Int.eq_ofNat_of_zero_le n60
      have hj : j < ns.length := by rw [hlm] at n61; omega
      exact ⟨ns[j], atI_nat (by rw [List.getElem?_map, List.getElem?_eq_getElem hj]; rfl), List.getElem_mem hj⟩
    walk_at "vs"
    intro p9 hp9
    have hp90 := but_none B8 hp9 (fun z => pl8.ne hp9 (by simpa using z))
    exact q p9 (.rd x) _ (B8.upd _ hp90) ((pl8.same (same_new _ hp9)).mono (by omega)) (.rd upd_same) ⟨hg x hxm, trivial, hxm, Nat.le_refl _⟩
end

section
variable {P : Program} {w : World} {K : PySem.W.Frag} {mg : Str → Option Value} {base : Heap}
noncomputable abbrev s_law_recipe : Stmt := top 12
theorem sc_law_recipe : FnScope ["pool", "names", "deep", "way", "one", "other"] ["pool", "names", "deep"] (defScope s_law_recipe) := ⟨rfl, rfl, rfl, by decide +kernel, rfl, by decide +kernel, by decide +kernel⟩
theorem lo_law_recipe_way : Loc (defScope s_law_recipe) "way" := by decide +kernel
theorem gl_law_recipe__law_take : (defScope s_law_recipe).names.lookup ("_law_take" : Str) = some NameKind.globalImplicit := by decide +kernel
theorem vo_law_recipe_pool : VarOk (defScope s_law_recipe) "pool" := by decide +kernel
theorem db_law_recipe__law_take : (("_law_take" : Str) == ("__debug__" : Str)) = false := by decide +kernel
theorem vo_law_recipe_way : VarOk (defScope s_law_recipe) "way" := by decide +kernel
theorem vo_law_recipe_deep : VarOk (defScope s_law_recipe) "deep" := by decide +kernel
theorem gl_law_recipe__law_leaf : (defScope s_law_recipe).names.lookup ("_law_leaf" : Str) = some NameKind.globalImplicit := by decide +kernel
theorem vo_law_recipe_names : VarOk (defScope s_law_recipe) "names" := by decide +kernel
theorem db_law_recipe__law_leaf : (("_law_leaf" : Str) == ("__debug__" : Str)) = false := by decide +kernel
theorem lo_law_recipe_one : Loc (defScope s_law_recipe) "one" := by decide +kernel
theorem gl_law_recipe__law_recipe : (defScope s_law_recipe).names.lookup ("_law_recipe" : Str) = some NameKind.globalImplicit := by decide +kernel
theorem db_law_recipe__law_recipe : (("_law_recipe" : Str) == ("__debug__" : Str)) = false := by decide +kernel
theorem vo_law_recipe_one : VarOk (defScope s_law_recipe) "one" := by decide +kernel
theorem gl_law_recipe_tuple : (defScope s_law_recipe).names.lookup ("tuple" : Str) = some NameKind.globalImplicit := by decide +kernel
theorem gl_law_recipe_range : (defScope s_law_recipe).names.lookup ("range" : Str) = some NameKind.globalImplicit := by decide +kernel
theorem nn_law_recipe_len : ("len" : Str) ≠ "__name__" := by decide +kernel
theorem db_law_recipe_len : (("len" : Str) == ("__debug__" : Str)) = false := by decide +kernel
theorem nn_law_recipe_tuple : ("tuple" : Str) ≠ "__name__" := by decide +kernel
theorem db_law_recipe_tuple : (("tuple" : Str) == ("__debug__" : Str)) = false := by decide +kernel
theorem lo_law_recipe_other : Loc (defScope s_law_recipe) "other" := by decide +kernel
theorem vo_law_recipe_other : VarOk (defScope s_law_recipe) "other" := by decide +kernel
theorem step_law_recipe {d : Nat} {f g0 g1 : Addr} {fd gd0 gd1 : FuncData} (T_law_recipe : FnT K mg "_law_recipe" s_law_recipe ["pool", "names", "deep"] f fd) (T_law_take : FnT K mg "_law_take" s_law_take ["pool", "many"] g0 gd0) (G_law_take : FnOk P w K mg base CX0 1 g0 gd0 ["pool", "many"] spTake)
    (T_law_leaf : FnT K mg "_law_leaf" s_law_leaf ["pool", "names"] g1 gd1) (G_law_leaf : FnOk P w K mg base CX0 2 g1 gd1 ["pool", "names"] sp3Lf) (G_law_recipe : FnOk P w K mg base CX0 (d + 2) f fd ["pool", "names", "deep"] (sp3P d)) (T : Blt mg) :
    FnOk P w K mg base CX0 (d + 3) f fd ["pool", "names", "deep"] (sp3Rc d) := by
  refine T_law_recipe.F.okQ sc_law_recipe (fun vs H Q E h => ?_) (fun cdv A outer s H vs Q E hr h => ?_)
  · obtain ⟨p, l, c, ns, deep, rfl, _⟩ := h
    rfl
  obtain ⟨p, l, c, ns, deep, rfl, hdeep, hd3, hp, hc, el, hn1, hn9, hg, q⟩ := h
  refine ⟨_, (qss_cons (qs_set (i := 3) sc_law_recipe.nd rfl lo_law_recipe_way (qe_call (G_law_take.mono (by omega)) hr gl_law_recipe__law_take T_law_take.m T_law_take.F.kp T_law_take.b .nil pass0 (qa_N (qe_var 0 vo_law_recipe_pool) (qa_C qe_int qa_nil)) db_law_recipe__law_take))
    (qss_cons (qs_if (qt_w (qw_or (qt_cmp qop_eq (qe_var 2 vo_law_recipe_deep) qe_int (nomarkQ _)) (qw_or1 (qt_cmp qop_eq (qe_var 3 vo_law_recipe_way) qe_int (nomarkQ _))))) (qss_one (qs_ret (qe_call (G_law_leaf.mono (by omega)) hr gl_law_recipe__law_leaf T_law_leaf.m T_law_leaf.F.kp T_law_leaf.b .nil pass0 (qa_N (qe_var 0 vo_law_recipe_pool) (qa_N (qe_var 1 vo_law_recipe_names) qa_nil)) db_law_recipe__law_leaf))) qss_nil)
    (qss_cons (qs_set (i := 4) sc_law_recipe.nd rfl lo_law_recipe_one (qe_call (G_law_recipe.mono (by omega)) hr gl_law_recipe__law_recipe T_law_recipe.m T_law_recipe.F.kp T_law_recipe.b .nil pass0 (qa_N (qe_var 0 vo_law_recipe_pool) (qa_N (qe_var 1 vo_law_recipe_names) (qa_B (qe_op qop_sub (qe_var 2 vo_law_recipe_deep) qe_int) qa_nil))) db_law_recipe__law_recipe))
    (qss_cons (qs_if (qt_cmp qop_eq (qe_var 3 vo_law_recipe_way) qe_int (nomarkQ _)) (qss_one (qs_ret (qe_tup (qa_C qe_str (qa_N (qe_var 4 vo_law_recipe_one) (qa_T (qe_tup (qa_C qe_str (qa_B (qe_op qop_sub (qe_call (G_law_take.mono (by omega)) hr gl_law_recipe__law_take T_law_take.m T_law_take.F.kp T_law_take.b .nil pass0 (qa_N (qe_var 0 vo_law_recipe_pool) (qa_C qe_int qa_nil)) db_law_recipe__law_take) qe_int) qa_nil))) qa_nil)))))) qss_nil)
    (qss_cons (qs_if (qt_w (qw_and (qt_cmp qop_eq (qe_var 3 vo_law_recipe_way) qe_int (nomarkQ _)) (qw_and1 (qt_cmp (qop_neD hr.units) (qe_var 1 vo_law_recipe_names) (qe_lst qa_nil) (nomarkQ _))))) (qss_one (qs_ret (qe_tup (qa_C qe_str (qa_N (qe_var 4 vo_law_recipe_one) (qa_F (qe_callTy qc_tuple_of gl_law_recipe_tuple T.b_tuple bt_tuple (qa_M (qe_comp rfl (n := 1) (fr := [1, 0]) (N := ["k", "names", "pool"]) (cs_mk (scX := defScope s_law_recipe) (NX := ["pool", "names", "deep", "way", "one", "other"]) rfl rfl (by decide +kernel)) (qi_range1 gl_law_recipe_range T.b_range (qa_B (qe_op qop_add qe_int (qe_call (G_law_take.mono (by omega)) hr gl_law_recipe__law_take T_law_take.m T_law_take.F.kp T_law_take.b .nil pass0 (qa_N (qe_var 0 vo_law_recipe_pool) (qa_C qe_int qa_nil)) db_law_recipe__law_take)) qa_nil)) (fun _ _ _ _ _ => (qgx (i := 0) (show List.Nodup (α := Str) ["k", "names", "pool"] by decide) (locC (by decide +kernel)))) (fun _ _ _ _ _ => qi_nil) (fun _ _ _ _ _ => (qe_ix (qix_listK (K := K) rfl) (qe_var 1 (VarC.ok (by decide +kernel))) (qe_call (G_law_take.mono (by omega)) hr (glC (by decide +kernel)) T_law_take.m T_law_take.F.kp T_law_take.b .nil pass0 (qa_N (qe_var 2 (VarC.ok (by decide +kernel))) (qa_F (qe_callB (qc_len_seqK (K := K) rfl) (glC (by decide +kernel)) T.b_len bt_len (qa_N (qe_var 1 (VarC.ok (by decide +kernel))) qa_nil) nn_law_recipe_len db_law_recipe_len) qa_nil)) db_law_recipe__law_take)))) qa_nil) nn_law_recipe_tuple db_law_recipe_tuple) qa_nil)))))) qss_nil)
    (qss_cons (qs_set (i := 5) sc_law_recipe.nd rfl lo_law_recipe_other (qe_call (G_law_recipe.mono (by omega)) hr gl_law_recipe__law_recipe T_law_recipe.m T_law_recipe.F.kp T_law_recipe.b .nil pass0 (qa_N (qe_var 0 vo_law_recipe_pool) (qa_N (qe_var 1 vo_law_recipe_names) (qa_B (qe_op qop_sub (qe_var 2 vo_law_recipe_deep) qe_int) qa_nil))) db_law_recipe__law_recipe))
    (qss_cons (qs_if (qt_cmp qop_lt (qe_var 3 vo_law_recipe_way) qe_int (nomarkQ _)) (qss_one (qs_ret (qe_tup (qa_C qe_str (qa_N (qe_var 4 vo_law_recipe_one) (qa_N (qe_var 5 vo_law_recipe_other) (qa_F (qe_call (G_law_recipe.mono (by omega)) hr gl_law_recipe__law_recipe T_law_recipe.m T_law_recipe.F.kp T_law_recipe.b .nil pass0 (qa_N (qe_var 0 vo_law_recipe_pool) (qa_N (qe_var 1 vo_law_recipe_names) (qa_B (qe_op qop_sub (qe_var 2 vo_law_recipe_deep) qe_int) qa_nil))) db_law_recipe__law_recipe) qa_nil))))))) qss_nil)
    (qss_one (qs_ret (qe_tup (qa_S (qe_ix qix_list (qe_lst (qa_C qe_str (qa_C qe_str (qa_C qe_str (qa_C qe_str qa_nil))))) (qe_op qop_sub (qe_var 3 vo_law_recipe_way) qe_int)) (qa_N (qe_var 4 vo_law_recipe_one) (qa_N (qe_var 5 vo_law_recipe_other) qa_nil))))))))))))), ?_⟩
  have ht := tk3_pos d
  have nlp := hp.nel el
  walk_at "vs"
  intro kind H1 k0 k1 b1 pl1
  have el1 := b1 _ _ nlp el
  have leafq : ∀ a r H', But [p] H1 H' → PoolAt H' p (c + 1 + 6) → IsR H' a r → Rk3 ns 1 r → Q (.ref a) H' := fun a r H' b pl R ok =>
    q a r H' (b1.trans b) (pl.mono (by omega)) R ⟨ok.g, ok.t, ok.i, by have := ok.d; omega⟩
  cases d with
  | zero =>
    have hdeep : deep = 0 := hdeep
    subst hdeep
    walk_at "vs"
    exact leafq
  | succ d =>
    have hdeep : deep = (d : Int) + 1 := hdeep
    have hnd : ¬ (deep = 0) := by omega
    walk_at "vs"
    refine ite2 (fun c0 => absurd (V.int.inj (of_decide_eq_true c0)) hnd) (fun _ => ?_)
    walk_at "vs"
    refine ite2 (fun c0 => ?_) (fun c0 => ?_)
    · walk_at "vs"
      exact leafq
    · have c0' : ¬ (kind = 0) := fun z => c0 (by rw [z]; rfl)
      walk_at "vs"
      intro a1 r1 H2 b2 pl2 R1 ok1
      have B2 := b1.trans b2
      have el2 := B2 _ _ nlp el
      have htd : tk3 d ≤ 170 := by
        have : d = 0 ∨ d = 1 ∨ d = 2 := by omega
        rcases this with rfl | rfl | rfl <;> decide
      have et : tk3 (d + 1) = 3 * tk3 d + 20 := rfl
      have od1 := ok1.d
      walk_at "vs"
      refine ite2 (fun c1 => ?_) (fun c1 => ?_)
      · walk_at "vs"
        intro n3 H3 n30 n31 b3 pl3
        have B3 := B2.trans b3
        have R13 := R1.tups (pl2.tups b3)
        walk_at "vs"
        intro p4 hp4
        have hp40 := but_none B3 hp4 (fun z => pl3.ne hp4 (by simpa using z))
        have S4 := same_new (.tup [V.str "number", V.int (n3 - 3)]) hp4
        have R4 : IsR (upd H3 p4 (.tup [V.str "number", V.int (n3 - 3)])) p4 (.num (n3 - 3)) := .num upd_same
        have B4 : But [p] H (upd H3 p4 (.tup [V.str "number", V.int (n3 - 3)])) := B3.upd _ hp40
        have pl4 := pl3.same S4
        have R14 := R13.same S4
        generalize upd H3 p4 (.tup [V.str "number", V.int (n3 - 3)]) = H4 at *
        walk_at "vs"
        intro p9 hp9
        have hp90 := but_none B4 hp9 (fun z => pl4.ne hp9 (by simpa using z))
        have S := same_new (.tup [V.str "times", .ref a1, .ref p4]) hp9
        exact q p9 (.bin .times r1 (.num (n3 - 3))) _ (B4.upd _ hp90) ((pl4.same S).mono (by omega)) (.bin upd_same (R14.same S) (R4.same S)) ⟨⟨ok1.g, show (n3 - 3).natAbs < 10 ^ 40 by omega⟩, ⟨ok1.t, trivial, fun _ => ⟨_, rfl, by omega, by omega⟩⟩, ⟨ok1.i, trivial⟩, by show max r1.depth 1 + 1 ≤ _; omega⟩
      · have c1' : ¬ (kind = 1) := fun z => c1 (by rw [z]; rfl)
        have rest : ∀ (a2 : Addr) (r2 : R) (H3 : Hp), But [p] H H3 → PoolAt H3 p (c + 1 + tk3 d + tk3 d) → IsR H3 a1 r1 → IsR H3 a2 r2 → Rk3 ns (d + 1) r2 → ∀ (op : Op), op ≠ .times → ∀ p9, H3 p9 = none → Q (.ref p9) (upd H3 p9 (.tup [.str op.word, .ref a1, .ref a2])) := by
          intro a2 r2 H3 b3 pl3 R1 R2 ok2 op hop p9 hp9
          have hp90 := but_none b3 hp9 (fun z => pl3.ne hp9 (by simpa using z))
          have S := same_new (.tup [.str op.word, .ref a1, .ref a2]) hp9
          have od2 := ok2.d
          exact q p9 (.bin op r1 r2) _ (b3.upd _ hp90) ((pl3.same S).mono (by omega)) (.bin upd_same (R1.same S) (R2.same S)) ⟨⟨ok1.g, ok2.g⟩, ⟨ok1.t, ok2.t, fun z => absurd z hop⟩, ⟨ok1.i, ok2.i⟩, by show max r1.depth r2.depth + 1 ≤ _; omega⟩
        walk_at "vs"
        refine ite2 (fun c2 => ?_) (fun c2 => ?_)
        · walk_at "vs"
          intro pe hpe
          have npe : pe ∉ [p] := fun z => pl2.ne hpe (by simpa using z)
          have hpe0 := but_none B2 hpe npe
          have S2 := same_new (.lst []) hpe
          have B3 : But [p] H (upd H2 pe (.lst [])) := B2.upd _ hpe0
          have pl3 := pl2.same S2
          have el3 := S2 _ _ el2
          have R13 := R1.same S2
          have e3 : upd H2 pe (.lst []) pe = some (.lst []) := upd_same
          generalize upd H2 pe (.lst []) = H3 at *
          refine ⟨_, _, .lst (SqL.of el3) (datVs_strs _), .lst (SqL.of e3) .nil, shaped_nms hg, by decide, ?_⟩
          rw [eqv_nms hn1]
          walk_at "vs"
          intro n9 H4 n90 n91 b4 pl4
          have B4 := B3.trans b4
          have el4 := B4 _ _ nlp el
          have R14 := R13.tups (pl3.tups b4)
          walk_at "vs"
          have hlm : (ns.map V.str).length = ns.length := List.length_map _
          have hl0 : 0 < ((ns.map V.str).length : Int) := by rw [hlm]; omega
          have hlog : ((ns.map V.str).length : Int).natAbs.log2 < 9000 := by
            rw [hlm]
            exact Nat.lt_of_le_of_lt (Nat.log2_le_self _) (by omega)
          intro D hD
          have nD : D ∉ [p] := fun z => pl4.ne hD (by simpa using z)
          have nDp : D ≠ p := by simpa using nD
          have hD0 := but_none B4 hD nD
          refine comp_range (fun i σ' H' => (∃ t, σ' = t :: [some (.ref l), some (.ref p)]) ∧ ∃ ts : List Str, H' D = some (.lst (ts.map V.str)) ∧ ts.length = i ∧ (∀ x ∈ ts, x ∈ ns) ∧ But [p] H H' ∧ PoolAt H' p (c + 1 + tk3 d + 1 + i) ∧ IsR H' a1 r1) ?_ ?_ ?_
          · exact ⟨⟨none, rfl⟩, [], upd_same, rfl, by simp, B4.upd _ hD0, pl4.same (same_new _ hD), R14.same (same_new _ hD)⟩
          · intro i σ' H' hi hP
            obtain ⟨⟨t, rfl⟩, ts, e, et', ho, hb, hpl, hR⟩ := hP
            have elH := hb _ _ nlp el
            have hi9 : (i : Int) < 10 := by omega
            walk_at "vs"
            intro n6 H5 n60 n61 b5 pl5
            have hb5 := hb.trans b5
            have el5 := hb5 _ _ nlp el
            have e5 := b5 _ _ nD e
            have R5 := hR.tups (hpl.tups b5)
            obtain ⟨x, hx, hxm⟩ : ∃ x, atI (ns.map V.str) n6 = some (.str x) ∧ x ∈ ns := by
              obtain ⟨j, rfl⟩ := Int.eq_ofNat_of_zero_le n60
              have hj : j < ns.length := by rw [hlm] at n61; omega
              exact ⟨ns[j], atI_nat (by rw [List.getElem?_map, List.getElem?_eq_getElem hj]; rfl), List.getElem_mem hj⟩
            have hz : (ts.map V.str).length < sizeLine := by rw [List.length_map]; exact small1000 (by omega)
            walk_at "vs"
            have tup5 : Tups H5 (upd H5 D (.lst (ts.map V.str ++ [.str x]))) := fun q xs e' => (upd_ne (fun z => by rw [z, e5] at e'; cases e')).trans e'
            refine ⟨⟨_, rfl⟩, ts ++ [x], ?_, by rw [List.length_append, et']; rfl, ?_, hb5.upd _ hD0, pl5.keep (But.set _ (by simp)) (S := [D]) (by simpa using Ne.symm nDp), R5.tups tup5⟩
            · rw [List.map_append]; exact upd_same
            · intro y hy
              rcases List.mem_append.mp hy with z | z
              · exact ho y z
              · have : y = x := by simpa using z
                rw [this]; exact hxm
          · intro σ' H' hP
            obtain ⟨_, ts, e, et', ho, hb, hpl, hR⟩ := hP
            walk_at "vs"
            intro pt hpt
            have hpt0 := but_none hb hpt (fun z => hpl.ne hpt (by simpa using z))
            have S5 := same_new (.tup (ts.map V.str)) hpt
            walk_at "vs"
            intro p9 hp9
            have hb5 := hb.upd (.tup (ts.map V.str)) hpt0
            have pl5 := hpl.same S5
            have hp90 := but_none hb5 hp9 (fun z => pl5.ne hp9 (by simpa using z))
            have S6 := same_new (.tup [.str "choose", .ref a1, .ref pt]) hp9
            exact q p9 (.cho r1 ts) _ (hb5.upd _ hp90) ((pl5.same S6).mono (by omega)) (.cho upd_same ((hR.same S5).same S6) (S6 _ _ upd_same)) ⟨⟨ok1.g, by omega, by omega, fun x hx => hg x (ho x hx)⟩, ⟨ok1.t, by omega⟩, ⟨ok1.i, ho⟩, by show r1.depth + 1 ≤ _; omega⟩
        · walk_at "vs"
          intro a2 r2 H3 b3 pl3 R2 ok2
          have B3 := B2.trans b3
          have el3 := B3 _ _ nlp el
          have R13 := R1.tups (pl2.tups b3)
          have od2 := ok2.d
          walk_at "vs"
          refine ite2 (fun c3 => ?_) (fun c3 => ?_)
          · walk_at "vs"
            intro a3 r3 H4 b4 pl4 R3 ok3
            have B4 := B3.trans b4
            have R14 := R13.tups (pl3.tups b4)
            have R24 := R2.tups (pl3.tups b4)
            have od3 := ok3.d
            walk_at "vs"
            intro p9 hp9
            have hp90 := but_none B4 hp9 (fun z => pl4.ne hp9 (by simpa using z))
            have S := same_new (.tup [.str "pick", .ref a1, .ref a2, .ref a3]) hp9
            exact q p9 (.pick r1 r2 r3) _ (B4.upd _ hp90) ((pl4.same S).mono (by omega)) (.pick upd_same (R14.same S) (R24.same S) (R3.same S)) ⟨⟨ok1.g, ok2.g, ok3.g⟩, ⟨ok1.t, ok2.t, ok3.t⟩, ⟨ok1.i, ok2.i, ok3.i⟩, by show max r1.depth (max r2.depth r3.depth) + 1 ≤ _; omega⟩
          · have c3' : ¬ kind < 5 := by simpa using c3
            obtain ⟨op, hop, hat⟩ : ∃ op : Op, op ≠ .times ∧ atI [V.str "plus", V.str "minus", V.str "most", V.str "plus"] (kind - 5) = some (.str op.word) := by
              have hm : kind - 5 = 0 ∨ kind - 5 = 1 ∨ kind - 5 = 2 ∨ kind - 5 = 3 := by omega
              rcases hm with hm | hm | hm | hm
              · rw [hm]; exact ⟨.plus, by decide, rfl⟩
              · rw [hm]; exact ⟨.minus, by decide, rfl⟩
              · rw [hm]; exact ⟨.most, by decide, rfl⟩
              · rw [hm]; exact ⟨.plus, by decide, rfl⟩
            walk_at "vs"
            intro pz hpz
            have npz : pz ∉ [p] := fun z => pl3.ne hpz (by simpa using z)
            have hpz0 := but_none B3 hpz npz
            have S3 := same_new (.lst [.str "plus", .str "minus", .str "most", .str "plus"]) hpz
            walk_at "vs"
            exact rest a2 r2 _ (B3.upd _ hpz0) (pl3.same S3) (R13.same S3) (R2.same S3) ok2 op hop
theorem ok_law_recipe {f g0 g1 : Addr} {fd gd0 gd1 : FuncData} (T_law_recipe : FnT K mg "_law_recipe" s_law_recipe ["pool", "names", "deep"] f fd) (T_law_take : FnT K mg "_law_take" s_law_take ["pool", "many"] g0 gd0) (G_law_take : FnOk P w K mg base CX0 1 g0 gd0 ["pool", "many"] spTake)
    (T_law_leaf : FnT K mg "_law_leaf" s_law_leaf ["pool", "names"] g1 gd1) (G_law_leaf : FnOk P w K mg base CX0 2 g1 gd1 ["pool", "names"] sp3Lf) (T : Blt mg) : ∀ d, FnOk P w K mg base CX0 (d + 3) f fd ["pool", "names", "deep"] (sp3Rc d)
  | 0 => step_law_recipe T_law_recipe T_law_take G_law_take T_law_leaf G_law_leaf (never fun vs H Q E h => h) T
  | d + 1 => step_law_recipe T_law_recipe T_law_take G_law_take T_law_leaf G_law_leaf (ok_law_recipe T_law_recipe T_law_take G_law_take T_law_leaf G_law_leaf T d) T
theorem ok_law_recipeA {f g0 g1 : Addr} {fd gd0 gd1 : FuncData} (T_law_recipe : FnT K mg "_law_recipe" s_law_recipe ["pool", "names", "deep"] f fd) (T_law_take : FnT K mg "_law_take" s_law_take ["pool", "many"] g0 gd0) (G_law_take : FnOk P w K mg base CX0 1 g0 gd0 ["pool", "many"] spTake)
    (T_law_leaf : FnT K mg "_law_leaf" s_law_leaf ["pool", "names"] g1 gd1) (G_law_leaf : FnOk P w K mg base CX0 2 g1 gd1 ["pool", "names"] sp3Lf) (T : Blt mg) : FnOk P w K mg base CX0 6 f fd ["pool", "names", "deep"] sp3RA := by
  have ok := ok_law_recipe T_law_recipe T_law_take G_law_take T_law_leaf G_law_leaf T
  refine ⟨fun vs H Q E h => ?_, fun A outer s H args us vs Q E hr he hb hv hs => ?_⟩
  · obtain ⟨p, l, c, ns, deep, rfl, _⟩ := h
    rfl
  · obtain ⟨p, l, c, ns, deep, rfl, h0, h4, hp, hc, el, hn1, hn9, hg, q⟩ := hs
    obtain ⟨d, rfl⟩ := Int.eq_ofNat_of_zero_le h0
    have hd : d = 0 ∨ d = 1 ∨ d = 2 ∨ d = 3 := by omega
    have ht : tk3 d ≤ 530 := by rcases hd with rfl | rfl | rfl | rfl <;> decide
    exact ((ok d).mono (by omega)).run A outer s H args us _ Q E hr he hb hv ⟨p, l, c, ns, _, rfl, rfl, by omega, hp, by omega, el, hn1, hn9, hg, fun a r H' b pl R o => q a r H' b (pl.mono (by omega)) R ⟨o.g, o.t, o.i, by have := o.d; omega⟩⟩
end

section
variable {P : Program} {w : World} {K : PySem.W.Frag} {mg : Str → Option Value} {base : Heap}
noncomputable abbrev s_law_house : Stmt := top 13
theorem sc_law_house : FnScope ["script", "start", "many", "given", "recipes", "names", "k", "pool"] ["script", "start", "many"] (defScope s_law_house) := ⟨rfl, rfl, rfl, by decide +kernel, rfl, by decide +kernel, by decide +kernel⟩
theorem lo_law_house_given : Loc (defScope s_law_house) "given" := by decide +kernel
theorem lo_law_house_recipes : Loc (defScope s_law_house) "recipes" := by decide +kernel
theorem lo_law_house_names : Loc (defScope s_law_house) "names" := by decide +kernel
theorem gl_law_house_range : (defScope s_law_house).names.lookup ("range" : Str) = some NameKind.globalImplicit := by decide +kernel
theorem vo_law_house_many : VarOk (defScope s_law_house) "many" := by decide +kernel
theorem lo_law_house_k : Loc (defScope s_law_house) "k" := by decide +kernel
theorem lo_law_house_pool : Loc (defScope s_law_house) "pool" := by decide +kernel
theorem gl_law_house__law_pool : (defScope s_law_house).names.lookup ("_law_pool" : Str) = some NameKind.globalImplicit := by decide +kernel
theorem vo_law_house_start : VarOk (defScope s_law_house) "start" := by decide +kernel
theorem vo_law_house_k : VarOk (defScope s_law_house) "k" := by decide +kernel
theorem vo_law_house_script : VarOk (defScope s_law_house) "script" := by decide +kernel
theorem db_law_house__law_pool : (("_law_pool" : Str) == ("__debug__" : Str)) = false := by decide +kernel
theorem gl_law_house__law_take : (defScope s_law_house).names.lookup ("_law_take" : Str) = some NameKind.globalImplicit := by decide +kernel
theorem vo_law_house_pool : VarOk (defScope s_law_house) "pool" := by decide +kernel
theorem db_law_house__law_take : (("_law_take" : Str) == ("__debug__" : Str)) = false := by decide +kernel
theorem vo_law_house_given : VarOk (defScope s_law_house) "given" := by decide +kernel
theorem gl_law_house__law_name : (defScope s_law_house).names.lookup ("_law_name" : Str) = some NameKind.globalImplicit := by decide +kernel
theorem db_law_house__law_name : (("_law_name" : Str) == ("__debug__" : Str)) = false := by decide +kernel
theorem vo_law_house_recipes : VarOk (defScope s_law_house) "recipes" := by decide +kernel
theorem gl_law_house__law_recipe : (defScope s_law_house).names.lookup ("_law_recipe" : Str) = some NameKind.globalImplicit := by decide +kernel
theorem vo_law_house_names : VarOk (defScope s_law_house) "names" := by decide +kernel
theorem db_law_house__law_recipe : (("_law_recipe" : Str) == ("__debug__" : Str)) = false := by decide +kernel
theorem ok_law_house {f g0 g1 g2 g3 : Addr} {fd gd0 gd1 gd2 gd3 : FuncData} (T_law_house : FnT K mg "_law_house" s_law_house ["script", "start", "many"] f fd) (T_law_take : FnT K mg "_law_take" s_law_take ["pool", "many"] g0 gd0) (G_law_take : FnOk P w K mg base CX0 1 g0 gd0 ["pool", "many"] spTake)
    (T_law_pool : FnT K mg "_law_pool" s_law_pool ["script", "k"] g1 gd1) (G_law_pool : FnOk P w K mg base CX0 2 g1 gd1 ["script", "k"] (spPool K)) (T_law_name : FnT K mg "_law_name" s_law_name ["k"] g2 gd2) (G_law_name : FnOk P w K mg base CX0 1 g2 gd2 ["k"] spLaName)
    (T_law_recipe : FnT K mg "_law_recipe" s_law_recipe ["pool", "names", "deep"] g3 gd3) (G_law_recipe : FnOk P w K mg base CX0 6 g3 gd3 ["pool", "names", "deep"] sp3RA) (T : Blt mg) : FnOk P w K mg base CX0 7 f fd ["script", "start", "many"] (sp3Hs K) := by
  refine T_law_house.F.okQ sc_law_house (fun vs H Q E h => ?_) (fun cdv A outer s H vs Q E hr h => ?_)
  · obtain ⟨a, zs, start, many, rfl, _⟩ := h
    rfl
  obtain ⟨a, zs, start, many, rfl, hS, h0, h50, hm, q⟩ := h
  refine ⟨_, (qss_cons (qs_set (i := 3) sc_law_house.nd rfl lo_law_house_given qe_dnewK)
    (qss_cons (qs_set (i := 4) sc_law_house.nd rfl lo_law_house_recipes qe_dnewK)
    (qss_cons (qs_set (i := 5) sc_law_house.nd rfl lo_law_house_names (qe_lst qa_nil))
    (qss_cons (qs_for PassesOwn.never rfl (qi_range1 gl_law_house_range T.b_range (qa_N (qe_var 2 vo_law_house_many) qa_nil)) (qg_name (i := 6) sc_law_house.nd rfl lo_law_house_k) (qss_cons (qs_set (i := 7) sc_law_house.nd rfl lo_law_house_pool (qe_call (G_law_pool.mono (by omega)) hr gl_law_house__law_pool T_law_pool.m T_law_pool.F.kp T_law_pool.b .nil pass0 (qa_N (qe_var 0 vo_law_house_script) (qa_B (qe_op qop_add (qe_var 1 vo_law_house_start) (qe_var 6 vo_law_house_k)) qa_nil)) db_law_house__law_pool))
    (qss_cons (qs_if (qt_w (qw_or (qt_cmp qop_eq (qe_var 6 vo_law_house_k) qe_int (nomarkQ _)) (qw_or1 (qt_cmp qop_eq (qe_call (G_law_take.mono (by omega)) hr gl_law_house__law_take T_law_take.m T_law_take.F.kp T_law_take.b .nil pass0 (qa_N (qe_var 7 vo_law_house_pool) (qa_C qe_int qa_nil)) db_law_house__law_take) qe_int (nomarkQ _))))) (qss_one (qs_dput (hu_of hr) (qe_var 3 vo_law_house_given) (qe_call (G_law_name.mono (by omega)) hr gl_law_house__law_name T_law_name.m T_law_name.F.kp T_law_name.b .nil pass0 (qa_N (qe_var 6 vo_law_house_k) qa_nil) db_law_house__law_name) (qe_op qop_sub (qe_call (G_law_take.mono (by omega)) hr gl_law_house__law_take T_law_take.m T_law_take.F.kp T_law_take.b .nil pass0 (qa_N (qe_var 7 vo_law_house_pool) (qa_C qe_int qa_nil)) db_law_house__law_take) qe_int))) (qss_one (qs_dput (hu_of hr) (qe_var 4 vo_law_house_recipes) (qe_call (G_law_name.mono (by omega)) hr gl_law_house__law_name T_law_name.m T_law_name.F.kp T_law_name.b .nil pass0 (qa_N (qe_var 6 vo_law_house_k) qa_nil) db_law_house__law_name) (qe_call (G_law_recipe.mono (by omega)) hr gl_law_house__law_recipe T_law_recipe.m T_law_recipe.F.kp T_law_recipe.b .nil pass0 (qa_N (qe_var 7 vo_law_house_pool) (qa_S (qe_slice qsl_list (qe_var 5 vo_law_house_names) (qo_some (qe_un qun_neg qe_int)) qo_none) (qa_S (qe_ix qix_list (qe_lst (qa_C qe_int (qa_C qe_int (qa_C qe_int qa_nil)))) (qe_call (G_law_take.mono (by omega)) hr gl_law_house__law_take T_law_take.m T_law_take.F.kp T_law_take.b .nil pass0 (qa_N (qe_var 7 vo_law_house_pool) (qa_C qe_int qa_nil)) db_law_house__law_take)) qa_nil))) db_law_house__law_recipe))))
    (qss_one (qs_expr (qe_bm PySem.F.plainAttrs_list PySem.F.slot_list_append PySem.F.type_list_append qmt_append (qe_var 5 vo_law_house_names) (qa_F (qe_call (G_law_name.mono (by omega)) hr gl_law_house__law_name T_law_name.m T_law_name.F.kp T_law_name.b .nil pass0 (qa_N (qe_var 6 vo_law_house_k) qa_nil) db_law_house__law_name) qa_nil)))))))
    (qss_one (qs_ret (qe_tup (qa_N (qe_var 3 vo_law_house_given) (qa_N (qe_var 4 vo_law_house_recipes) qa_nil))))))))), ?_⟩
  walk_at "vs"
  intro g hg0
  have s1 := same_new (.dK []) hg0
  have e1 : upd H g (.dK []) g = some (.dK []) := upd_same
  generalize upd H g (.dK []) = H1 at *
  walk_at "vs"
  intro c hc1
  have s2 := same_new (.dK []) hc1
  have e12 := s2 _ _ e1
  have e2 : upd H1 c (.dK []) c = some (.dK []) := upd_same
  have ngc : g ≠ c := fun z => by rw [← z, e1] at hc1; cases hc1
  have hc0 := same_none s1 hc1
  have S2 := s1.trans s2
  generalize upd H1 c (.dK []) = H2 at *
  walk_at "vs"
  intro l hl2
  have s3 := same_new (.lst []) hl2
  have e13 := s3 _ _ e12
  have e23 := s3 _ _ e2
  have e3 : upd H2 l (.lst []) l = some (.lst ((nmK 0).map V.str)) := upd_same
  have hl0 := same_none S2 hl2
  have S3 := S2.trans s3
  generalize upd H2 l (.lst []) = H3 at *
  clear s1 s2 s3 S2 e12 e1 e2 hc1 hl2
  refine ⟨_, rfl, _, rfl, by omega, by omega, ?_⟩
  refine for_range (fun i σ H' => (∃ t u, σ = [some (.ref a), some (.int start), some (.int many), some (.ref g), some (.ref c), some (.ref l), t, u]) ∧ Same H H' ∧ ∃ gv rc kg kc, H' g = some (.dK kg) ∧ H' c = some (.dK kc) ∧ H' l = some (.lst ((nmK i).map V.str)) ∧ Bld H' kg kc i gv rc) ?_ ?_ ?_
  · exact ⟨⟨none, none, rfl⟩, S3, kn0, fun _ => none, [], [], e13, e23, e3, ⟨fun k hk => by omega, fun x hx => absurd rfl hx, fun x r e => (by cases e), fun x hx => absurd rfl hx, fun z => by omega⟩, ⟨[], [], ⟨rfl, by simp⟩, ⟨rfl, by simp⟩, rfl⟩, fun x => rfl, fun x r e => (by cases e), fun x _ => rfl⟩
  · intro i σ H4 hi hP
    obtain ⟨⟨t, u, rfl⟩, S4, gv, rc, kg, kc, eg4, ec4, el4, bd⟩ := hP
    have hi17 : i < 17 := by
      have : i < (many : Int).toNat := hi
      omega
    have hS4 := SqL.same S4 hS
    have ei : (0 + (i : Int)) = (i : Int) := by omega
    obtain ⟨gs, cs, kgk, kck, hlen⟩ := bd.k
    have lg := kgk.len
    have lc := kck.len
    rw [ei]
    walk_at "vs"
    intro p H5 s5 hp5 pl5
    have S5 := S4.trans s5
    have hp0 := same_none S4 hp5
    have eg5 := s5 _ _ eg4
    have ec5 := s5 _ _ ec4
    have el5 := s5 _ _ el4
    have bd5 := bd.tups (Same.tups s5)
    have fr : ∀ y ∈ [p], H y = none := fun y hy => by
      have : y = p := by simpa using hy
      rw [this]; exact hp0
    have ngp : g ∉ [p] := fun z => by
      have : g = p := by simpa using z
      rw [← this, eg4] at hp5; cases hp5
    have ncp : c ∉ [p] := fun z => by
      have : c = p := by simpa using z
      rw [← this, ec4] at hp5; cases hp5
    have nlp := pl5.nel el5
    have ngl : g ≠ l := fun z => by rw [z, el5] at eg5; cases eg5
    have ncl : c ≠ l := fun z => by rw [z, el5] at ec5; cases ec5
    have hzl : ((nmK i).map V.str).length < sizeLine := by rw [List.length_map, nmK_len]; exact small1000 (by omega)
    have done : ∀ (H6 : Hp) (σ6 : L2.St) gv rc kg kc, (∃ t u, σ6 = [some (.ref a), some (.int start), some (.int many), some (.ref g), some (.ref c), some (.ref l), t, u]) → Same H H6 → H6 g = some (.dK kg) → H6 c = some (.dK kc) → H6 l = some (.lst ((nmK i).map V.str)) → Bld H6 kg kc (i + 1) gv rc →
        (∃ t u, σ6 = [some (.ref a), some (.int start), some (.int many), some (.ref g), some (.ref c), some (.ref l), t, u]) ∧ Same H (upd H6 l (.lst ((nmK i).map V.str ++ [.str (nameK i)]))) ∧ ∃ gv rc kg kc, (upd H6 l (.lst ((nmK i).map V.str ++ [.str (nameK i)]))) g = some (.dK kg) ∧ (upd H6 l (.lst ((nmK i).map V.str ++ [.str (nameK i)]))) c = some (.dK kc) ∧ (upd H6 l (.lst ((nmK i).map V.str ++ [.str (nameK i)]))) l = some (.lst ((nmK (i + 1)).map V.str)) ∧ Bld (upd H6 l (.lst ((nmK i).map V.str ++ [.str (nameK i)]))) kg kc (i + 1) gv rc := by
      intro H6 σ6 gv rc kg kc hσ S6 e1 e2 e3 b
      refine ⟨hσ, same_updN _ hl0 S6, gv, rc, kg, kc, (upd_ne ngl).trans e1, (upd_ne ncl).trans e2, ?_, b.tups fun y xs z => (upd_ne (fun w => by rw [w, e3] at z; cases z)).trans z⟩
      rw [upd_same, nmK_succ, List.map_append]; rfl
    walk_at "vs"
    refine ite2 (fun c1 => ?_) (fun c1 => ?_)
    · walk_at "vs"
      intro n7 H7 n70 n71 b7 pl7
      have B7 := b7
      have S7 := but_same S5 fr B7
      have eg7 := B7 _ _ ngp eg5
      have ec7 := B7 _ _ ncp ec5
      have el7 := B7 _ _ nlp el5
      have bd7 := bd5.tups (pl5.tups B7)
      have dp : DPut H7 g (.str (nameK i)) (.int (n7 - 6)) (upd H7 g (.dK (putK kg (.inr (nameK i)) (.int (n7 - 6))))) := DPut.k (k := .inr (nameK i)) eg7 (small1000 (by omega))
      walk_at "vs"
      have t8 : Tups H7 (upd H7 g (.dK (putK kg (.inr (nameK i)) (.int (n7 - 6))))) := fun y xs z => (upd_ne (fun w => by rw [w, eg7] at z; cases z)).trans z
      have el8 : upd H7 g (.dK (putK kg (.inr (nameK i)) (.int (n7 - 6)))) l = some (.lst ((nmK i).map V.str)) := (upd_ne (Ne.symm ngl)).trans el7
      have ec8 : upd H7 g (.dK (putK kg (.inr (nameK i)) (.int (n7 - 6)))) c = some (.dK kc) := (upd_ne (Ne.symm ngc)).trans ec7
      have S8 := same_updN (.dK (putK kg (.inr (nameK i)) (.int (n7 - 6)))) hg0 S7
      have eg8 : upd H7 g (.dK (putK kg (.inr (nameK i)) (.int (n7 - 6)))) g = some (.dK (putK kg (.inr (nameK i)) (.int (n7 - 6)))) := upd_same
      have bd8 := (bd7.tups t8).addG (by omega) (n7 - 6)
      exact done _ _ _ _ _ _ ⟨_, _, rfl⟩ S8 eg8 ec8 el8 bd8
    · have c1' : 0 < i := by
        rcases Nat.eq_zero_or_pos i with z | z
        · subst z; exact absurd rfl c1
        · exact z
      walk_at "vs"
      intro n6 H6 n60 n61 b6 pl6
      walk_at "vs"
      refine ite2 (fun c2 => ?_) (fun c2 => ?_)
      · walk_at "vs"
        intro n7 H7 n70 n71 b7 pl7
        have B7 := b6.trans b7
        have S7 := but_same S5 fr B7
        have eg7 := B7 _ _ ngp eg5
        have ec7 := B7 _ _ ncp ec5
        have el7 := B7 _ _ nlp el5
        have bd7 := bd5.tups (pl5.tups B7)
        have dp : DPut H7 g (.str (nameK i)) (.int (n7 - 6)) (upd H7 g (.dK (putK kg (.inr (nameK i)) (.int (n7 - 6))))) := DPut.k (k := .inr (nameK i)) eg7 (small1000 (by omega))
        walk_at "vs"
        have t8 : Tups H7 (upd H7 g (.dK (putK kg (.inr (nameK i)) (.int (n7 - 6))))) := fun y xs z => (upd_ne (fun w => by rw [w, eg7] at z; cases z)).trans z
        have el8 : upd H7 g (.dK (putK kg (.inr (nameK i)) (.int (n7 - 6)))) l = some (.lst ((nmK i).map V.str)) := (upd_ne (Ne.symm ngl)).trans el7
        have ec8 : upd H7 g (.dK (putK kg (.inr (nameK i)) (.int (n7 - 6)))) c = some (.dK kc) := (upd_ne (Ne.symm ngc)).trans ec7
        have S8 := same_updN (.dK (putK kg (.inr (nameK i)) (.int (n7 - 6)))) hg0 S7
        have eg8 : upd H7 g (.dK (putK kg (.inr (nameK i)) (.int (n7 - 6)))) g = some (.dK (putK kg (.inr (nameK i)) (.int (n7 - 6)))) := upd_same
        have bd8 := (bd7.tups t8).addG (by omega) (n7 - 6)
        exact done _ _ _ _ _ _ ⟨_, _, rfl⟩ S8 eg8 ec8 el8 bd8
      · have el6 := b6 _ _ nlp el5
        obtain ⟨ns, ecut, hn1, hn9, hns⟩ := cut9 c1'
        have hgn : ∀ x ∈ ns, GName x := fun x hx => nmK_good (by omega) x (hns x hx)
        walk_at "vs"
        intro pc hpc
        rw [ecut]
        have s7 := same_new (.lst (ns.map V.str)) hpc
        have e7 : upd H6 pc (.lst (ns.map V.str)) pc = some (.lst (ns.map V.str)) := upd_same
        have pl7 := pl6.same s7
        have B7 : But [p] H5 (upd H6 pc (.lst (ns.map V.str))) := b6.trans (But.of_same s7)
        have npc : pc ∉ [p] := fun z => pl6.ne hpc (by simpa using z)
        generalize upd H6 pc (.lst (ns.map V.str)) = H7 at *
        walk_at "vs"
        intro pz hpz
        have npz : pz ∉ [p] := fun z => pl7.ne hpz (by simpa using z)
        have s8 := same_new (.lst [V.int 1, V.int 2, V.int 3]) hpz
        have e8 : upd H7 pz (.lst [V.int 1, V.int 2, V.int 3]) pz = some (.lst [V.int 1, V.int 2, V.int 3]) := upd_same
        have e78 := s8 _ _ e7
        have pl8 := pl7.same s8
        have B8 := B7.trans (But.of_same (S := [p]) s8)
        generalize upd H7 pz (.lst [V.int 1, V.int 2, V.int 3]) = H8 at *
        walk_at "vs"
        intro n9 H9 n90 n91 b9 pl9
        have e9 := b9 _ _ npz e8
        have e79 := b9 _ _ npc e78
        obtain ⟨dd, hdd, hd0, hd1⟩ : ∃ dd : Int, atI [V.int 1, V.int 2, V.int 3] n9 = some (.int dd) ∧ 0 ≤ dd ∧ dd < 4 := by
          have : n9 = 0 ∨ n9 = 1 ∨ n9 = 2 := by omega
          rcases this with rfl | rfl | rfl
          · exact ⟨1, rfl, by omega, by omega⟩
          · exact ⟨2, rfl, by omega, by omega⟩
          · exact ⟨3, rfl, by omega, by omega⟩
        walk_at "vs"
        intro br r H10 b10 pl10 R10 ok10
        have B10 := B8.trans (b9.trans b10)
        have S10 := but_same S5 fr B10
        have eg10 := B10 _ _ ngp eg5
        have ec10 := B10 _ _ ncp ec5
        have el10 := B10 _ _ nlp el5
        have bd10 := bd5.tups (pl5.tups B10)
        have dp : DPut H10 c (.str (nameK i)) (.ref br) (upd H10 c (.dK (putK kc (.inr (nameK i)) (.ref br)))) := DPut.k (k := .inr (nameK i)) ec10 (small1000 (by omega))
        walk_at "vs"
        have t11 : Tups H10 (upd H10 c (.dK (putK kc (.inr (nameK i)) (.ref br)))) := fun y xs z => (upd_ne (fun w => by rw [w, ec10] at z; cases z)).trans z
        have el11 : upd H10 c (.dK (putK kc (.inr (nameK i)) (.ref br))) l = some (.lst ((nmK i).map V.str)) := (upd_ne (Ne.symm ncl)).trans el10
        have eg11 : upd H10 c (.dK (putK kc (.inr (nameK i)) (.ref br))) g = some (.dK kg) := (upd_ne ngc).trans eg10
        have S11 := same_updN (.dK (putK kc (.inr (nameK i)) (.ref br))) hc0 S10
        have ec11 : upd H10 c (.dK (putK kc (.inr (nameK i)) (.ref br))) c = some (.dK (putK kc (.inr (nameK i)) (.ref br))) := upd_same
        have bd11 := (bd10.tups t11).addR (by omega) c1' (ok10.mono hns) (R10.tups t11)
        exact done _ _ _ _ _ _ ⟨_, _, rfl⟩ S11 eg11 ec11 el11 bd11
  · intro σ H4 hP
    obtain ⟨⟨t, u, rfl⟩, S4, gv, rc, kg, kc, eg4, ec4, el4, bd⟩ := hP
    have em : (many : Int).toNat = many := by omega
    rw [em] at bd
    walk_at "vs"
    intro h hh
    have s5 := same_new (.tup [.ref g, .ref c]) hh
    exact q h g c gv rc _ (S4.trans s5) (same_none S4 hh) hg0 hc0 ⟨kg, kc, upd_same, s5 _ _ eg4, s5 _ _ ec4, bd.tups (Same.tups s5)⟩
end

section
variable {P : Program} {w : World} {K : PySem.W.Frag} {mg : Str → Option Value} {base : Heap}
noncomputable abbrev s_law_other : Stmt := top 14
theorem sc_law_other : FnScope ["house", "script", "start", "most", "given", "recipes", "names", "many", "k", "name", "pool", "way"] ["house", "script", "start", "most"] (defScope s_law_other) := ⟨rfl, rfl, rfl, by decide +kernel, rfl, by decide +kernel, by decide +kernel⟩
theorem lo_law_other_given : Loc (defScope s_law_other) "given" := by decide +kernel
theorem gl_law_other_dict : (defScope s_law_other).names.lookup ("dict" : Str) = some NameKind.globalImplicit := by decide +kernel
theorem vo_law_other_house : VarOk (defScope s_law_other) "house" := by decide +kernel
theorem nn_law_other_dict : ("dict" : Str) ≠ "__name__" := by decide +kernel
theorem db_law_other_dict : (("dict" : Str) == ("__debug__" : Str)) = false := by decide +kernel
theorem lo_law_other_recipes : Loc (defScope s_law_other) "recipes" := by decide +kernel
theorem lo_law_other_names : Loc (defScope s_law_other) "names" := by decide +kernel
theorem lo_law_other_many : Loc (defScope s_law_other) "many" := by decide +kernel
theorem gl_law_other_len : (defScope s_law_other).names.lookup ("len" : Str) = some NameKind.globalImplicit := by decide +kernel
theorem vo_law_other_given : VarOk (defScope s_law_other) "given" := by decide +kernel
theorem nn_law_other_len : ("len" : Str) ≠ "__name__" := by decide +kernel
theorem db_law_other_len : (("len" : Str) == ("__debug__" : Str)) = false := by decide +kernel
theorem vo_law_other_recipes : VarOk (defScope s_law_other) "recipes" := by decide +kernel
theorem gl_law_other_range : (defScope s_law_other).names.lookup ("range" : Str) = some NameKind.globalImplicit := by decide +kernel
theorem vo_law_other_many : VarOk (defScope s_law_other) "many" := by decide +kernel
theorem lo_law_other_k : Loc (defScope s_law_other) "k" := by decide +kernel
theorem lo_law_other_name : Loc (defScope s_law_other) "name" := by decide +kernel
theorem gl_law_other__law_name : (defScope s_law_other).names.lookup ("_law_name" : Str) = some NameKind.globalImplicit := by decide +kernel
theorem vo_law_other_k : VarOk (defScope s_law_other) "k" := by decide +kernel
theorem db_law_other__law_name : (("_law_name" : Str) == ("__debug__" : Str)) = false := by decide +kernel
theorem lo_law_other_pool : Loc (defScope s_law_other) "pool" := by decide +kernel
theorem gl_law_other__law_pool : (defScope s_law_other).names.lookup ("_law_pool" : Str) = some NameKind.globalImplicit := by decide +kernel
theorem vo_law_other_start : VarOk (defScope s_law_other) "start" := by decide +kernel
theorem vo_law_other_script : VarOk (defScope s_law_other) "script" := by decide +kernel
theorem db_law_other__law_pool : (("_law_pool" : Str) == ("__debug__" : Str)) = false := by decide +kernel
theorem vo_law_other_pool : VarOk (defScope s_law_other) "pool" := by decide +kernel
theorem lo_law_other_way : Loc (defScope s_law_other) "way" := by decide +kernel
theorem gl_law_other__law_take : (defScope s_law_other).names.lookup ("_law_take" : Str) = some NameKind.globalImplicit := by decide +kernel
theorem vo_law_other_most : VarOk (defScope s_law_other) "most" := by decide +kernel
theorem db_law_other__law_take : (("_law_take" : Str) == ("__debug__" : Str)) = false := by decide +kernel
theorem vo_law_other_name : VarOk (defScope s_law_other) "name" := by decide +kernel
theorem vo_law_other_way : VarOk (defScope s_law_other) "way" := by decide +kernel
theorem gl_law_other__law_recipe : (defScope s_law_other).names.lookup ("_law_recipe" : Str) = some NameKind.globalImplicit := by decide +kernel
theorem vo_law_other_names : VarOk (defScope s_law_other) "names" := by decide +kernel
theorem db_law_other__law_recipe : (("_law_recipe" : Str) == ("__debug__" : Str)) = false := by decide +kernel
theorem ok_law_other {f g0 g1 g2 g3 : Addr} {fd gd0 gd1 gd2 gd3 : FuncData} (T_law_other : FnT K mg "_law_other" s_law_other ["house", "script", "start", "most"] f fd) (T_law_take : FnT K mg "_law_take" s_law_take ["pool", "many"] g0 gd0) (G_law_take : FnOk P w K mg base CX0 1 g0 gd0 ["pool", "many"] spTake)
    (T_law_pool : FnT K mg "_law_pool" s_law_pool ["script", "k"] g1 gd1) (G_law_pool : FnOk P w K mg base CX0 2 g1 gd1 ["script", "k"] (spPool K)) (T_law_name : FnT K mg "_law_name" s_law_name ["k"] g2 gd2) (G_law_name : FnOk P w K mg base CX0 1 g2 gd2 ["k"] spLaName)
    (T_law_recipe : FnT K mg "_law_recipe" s_law_recipe ["pool", "names", "deep"] g3 gd3) (G_law_recipe : FnOk P w K mg base CX0 6 g3 gd3 ["pool", "names", "deep"] sp3RA) (T : Blt mg) : FnOk P w K mg base CX0 7 f fd ["house", "script", "start", "most"] (sp3Ot K) := by
  refine T_law_other.F.okQ sc_law_other (fun vs H Q E h => ?_) (fun cdv A outer s H vs Q E hr h => ?_)
  · obtain ⟨h, g, c, a, zs, start, most, n, gv, rc, rfl, _⟩ := h
    rfl
  obtain ⟨h, g1, c1, a, zs, start, most, n, gv0, rc0, rfl, ⟨kg0, kc0, eh, eg1, ec1, bd0⟩, hn17, hS, h0, h50, hm0, hm100, q⟩ := h
  have rg1 : Rd H g1 (.dK kg0) := .inl eg1
  refine ⟨_, (qss_cons (qs_set (i := 4) sc_law_other.nd rfl lo_law_other_given (qe_callTy qc_dictD gl_law_other_dict T.b_dict bt_dict (qa_S (qe_ix qix_tup (qe_var 0 vo_law_other_house) qe_int) qa_nil) nn_law_other_dict db_law_other_dict))
    (qss_cons (qs_set (i := 5) sc_law_other.nd rfl lo_law_other_recipes (qe_callTy qc_dictD gl_law_other_dict T.b_dict bt_dict (qa_S (qe_ix qix_tup (qe_var 0 vo_law_other_house) qe_int) qa_nil) nn_law_other_dict db_law_other_dict))
    (qss_cons (qs_set (i := 6) sc_law_other.nd rfl lo_law_other_names (qe_lst qa_nil))
    (qss_cons (qs_set (i := 7) sc_law_other.nd rfl lo_law_other_many (qe_op qop_add (qe_callB qc_lenD gl_law_other_len T.b_len bt_len (qa_N (qe_var 4 vo_law_other_given) qa_nil) nn_law_other_len db_law_other_len) (qe_callB qc_lenD gl_law_other_len T.b_len bt_len (qa_N (qe_var 5 vo_law_other_recipes) qa_nil) nn_law_other_len db_law_other_len)))
    (qss_cons (qs_for PassesOwn.never rfl (qi_range1 gl_law_other_range T.b_range (qa_N (qe_var 7 vo_law_other_many) qa_nil)) (qg_name (i := 8) sc_law_other.nd rfl lo_law_other_k) (qss_cons (qs_set (i := 9) sc_law_other.nd rfl lo_law_other_name (qe_call (G_law_name.mono (by omega)) hr gl_law_other__law_name T_law_name.m T_law_name.F.kp T_law_name.b .nil pass0 (qa_N (qe_var 8 vo_law_other_k) qa_nil) db_law_other__law_name))
    (qss_cons (qs_set (i := 10) sc_law_other.nd rfl lo_law_other_pool (qe_call (G_law_pool.mono (by omega)) hr gl_law_other__law_pool T_law_pool.m T_law_pool.F.kp T_law_pool.b .nil pass0 (qa_N (qe_var 1 vo_law_other_script) (qa_B (qe_op qop_add (qe_var 2 vo_law_other_start) (qe_op qop_mod (qe_var 8 vo_law_other_k) qe_int)) qa_nil)) db_law_other__law_pool))
    (qss_cons (qs_dput (hu_of hr) (qe_var 10 vo_law_other_pool) qe_str (qe_op qop_add (qe_op qop_fdiv (qe_dget (hu_of hr) (qe_var 10 vo_law_other_pool) qe_str) (qe_op qop_add (qe_op qop_fdiv (qe_var 8 vo_law_other_k) qe_int) qe_int)) (qe_op qop_mul qe_int (qe_var 8 vo_law_other_k))))
    (qss_cons (qs_set (i := 11) sc_law_other.nd rfl lo_law_other_way (qe_call (G_law_take.mono (by omega)) hr gl_law_other__law_take T_law_take.m T_law_take.F.kp T_law_take.b .nil pass0 (qa_N (qe_var 10 vo_law_other_pool) (qa_N (qe_var 3 vo_law_other_most) qa_nil)) db_law_other__law_take))
    (qss_cons (qs_if (qt_w (qw_and (qt_cmp qop_eq (qe_var 11 vo_law_other_way) qe_int (nomarkQ _)) (qw_and1 (qt_din (hu_of hr) (qe_var 9 vo_law_other_name) (qe_var 4 vo_law_other_given))))) (qss_one (qs_dput (hu_of hr) (qe_var 4 vo_law_other_given) (qe_var 9 vo_law_other_name) (qe_op qop_add (qe_dget (hu_of hr) (qe_var 4 vo_law_other_given) (qe_var 9 vo_law_other_name)) (qe_ix qix_list (qe_lst (qa_C qe_int (qa_U (qe_un qun_neg qe_int) (qa_C qe_int (qa_B (qe_op qop_pow qe_int qe_int) qa_nil))))) (qe_call (G_law_take.mono (by omega)) hr gl_law_other__law_take T_law_take.m T_law_take.F.kp T_law_take.b .nil pass0 (qa_N (qe_var 10 vo_law_other_pool) (qa_C qe_int qa_nil)) db_law_other__law_take))))) (qss_one (qs_if (qt_cmp qop_eq (qe_var 11 vo_law_other_way) qe_int (nomarkQ _)) (qss_one (qs_dput (hu_of hr) (qe_var 5 vo_law_other_recipes) (qe_var 9 vo_law_other_name) (qe_call (G_law_recipe.mono (by omega)) hr gl_law_other__law_recipe T_law_recipe.m T_law_recipe.F.kp T_law_recipe.b .nil pass0 (qa_N (qe_var 10 vo_law_other_pool) (qa_S (qe_slice qsl_list (qe_var 6 vo_law_other_names) (qo_some (qe_un qun_neg qe_int)) qo_none) (qa_C qe_int qa_nil))) db_law_other__law_recipe))) qss_nil)))
    (qss_cons (qs_if (qt_w (qw_and (qt_cmp qop_eq (qe_var 11 vo_law_other_way) qe_int (nomarkQ _)) (qw_and1 (qt_din (hu_of hr) (qe_var 9 vo_law_other_name) (qe_var 5 vo_law_other_recipes))))) (qss_cons (qs_expr (qe_dpop1 (qe_var 5 vo_law_other_recipes) (qe_var 9 vo_law_other_name) ⟨rfl, rfl, rfl, rfl⟩))
    (qss_one (qs_dput (hu_of hr) (qe_var 4 vo_law_other_given) (qe_var 9 vo_law_other_name) (qe_op qop_sub (qe_call (G_law_take.mono (by omega)) hr gl_law_other__law_take T_law_take.m T_law_take.F.kp T_law_take.b .nil pass0 (qa_N (qe_var 10 vo_law_other_pool) (qa_C qe_int qa_nil)) db_law_other__law_take) qe_int)))) (qss_one (qs_if (qt_w (qw_and (qt_cmp qop_eq (qe_var 11 vo_law_other_way) qe_int (nomarkQ _)) (qw_and1 (qt_cmp qop_gt (qe_var 8 vo_law_other_k) qe_int (nomarkQ _))))) (qss_cons (qs_expr (qe_dpop1 (qe_var 4 vo_law_other_given) (qe_var 9 vo_law_other_name) ⟨rfl, rfl, rfl, rfl⟩))
    (qss_one (qs_dput (hu_of hr) (qe_var 5 vo_law_other_recipes) (qe_var 9 vo_law_other_name) (qe_call (G_law_recipe.mono (by omega)) hr gl_law_other__law_recipe T_law_recipe.m T_law_recipe.F.kp T_law_recipe.b .nil pass0 (qa_N (qe_var 10 vo_law_other_pool) (qa_S (qe_slice qsl_list (qe_var 6 vo_law_other_names) (qo_some (qe_un qun_neg qe_int)) qo_none) (qa_C qe_int qa_nil))) db_law_other__law_recipe)))) qss_nil)))
    (qss_one (qs_expr (qe_bm PySem.F.plainAttrs_list PySem.F.slot_list_append PySem.F.type_list_append qmt_append (qe_var 6 vo_law_other_names) (qa_N (qe_var 9 vo_law_other_name) qa_nil)))))))))))
    (qss_one (qs_ret (qe_tup (qa_N (qe_var 4 vo_law_other_given) (qa_N (qe_var 5 vo_law_other_recipes) qa_nil)))))))))), ?_⟩
  walk_at "vs"
  intro g hg0
  have s1 := same_new (.dK kg0) hg0
  have e1 : upd H g (.dK kg0) g = some (.dK kg0) := upd_same
  have eh1 := s1 _ _ eh
  have rc1 : Rd (upd H g (.dK kg0)) c1 (.dK kc0) := .inl (s1 _ _ ec1)
  generalize upd H g (.dK kg0) = H1 at *
  walk_at "vs"
  intro c hc1
  have s2 := same_new (.dK kc0) hc1
  have e12 := s2 _ _ e1
  have e2 : upd H1 c (.dK kc0) c = some (.dK kc0) := upd_same
  have ngc : g ≠ c := fun z => by rw [← z, e1] at hc1; cases hc1
  have hc0 := same_none s1 hc1
  have S2 := s1.trans s2
  generalize upd H1 c (.dK kc0) = H2 at *
  walk_at "vs"
  intro l hl2
  have s3 := same_new (.lst []) hl2
  have e13 := s3 _ _ e12
  have e23 := s3 _ _ e2
  have e3 : upd H2 l (.lst []) l = some (.lst ((nmK 0).map V.str)) := upd_same
  have hl0 := same_none S2 hl2
  have S3 := S2.trans s3
  have hlen0 : kg0.length + kc0.length = n := by
    obtain ⟨gs, cs, h1, h2, h3⟩ := bd0.k
    rw [h1.len, h2.len]; exact h3
  generalize upd H2 l (.lst []) = H3 at *
  have bd3 := bd0.tups (Same.tups S3)
  clear s1 s2 s3 S2 e12 e1 e2 hc1 hl2 eh1 rc1 rg1
  iterate 8 walk_at "v"
  refine ⟨_, rfl, _, rfl, by omega, by omega, ?_⟩
  have en : ((kg0.length : Int) + (kc0.length : Int)) = (n : Int) := by omega
  have SG : L2.St → Prop := fun σ => ∃ t u v w, σ = [some (.ref h), some (.ref a), some (.int start), some (.int most), some (.ref g), some (.ref c), some (.ref l), some (.int ((kg0.length : Int) + (kc0.length : Int))), t, u, v, w]
  refine for_range (fun i σ H' => (∃ t u v w, σ = [some (.ref h), some (.ref a), some (.int start), some (.int most), some (.ref g), some (.ref c), some (.ref l), some (.int ((kg0.length : Int) + (kc0.length : Int))), t, u, v, w]) ∧ Same H H' ∧ ∃ gv rc kg kc, H' g = some (.dK kg) ∧ H' c = some (.dK kc) ∧ H' l = some (.lst ((nmK i).map V.str)) ∧ Bld H' kg kc n gv rc) ?_ ?_ ?_
  · exact ⟨⟨none, none, none, none, rfl⟩, S3, gv0, rc0, kg0, kc0, e13, e23, e3, bd3⟩
  · intro i σ H4 hi hP
    obtain ⟨⟨t, u, v, w, rfl⟩, S4, gv, rc, kg, kc, eg4, ec4, el4, bd⟩ := hP
    have hin : i < n := by
      have : i < ((kg0.length : Int) + (kc0.length : Int)).toNat := hi
      omega
    have hS4 := SqL.same S4 hS
    have ei : (0 + (i : Int)) = (i : Int) := by omega
    obtain ⟨gs, cs, kgk, kck, hlen⟩ := bd.k
    have lg := kgk.len
    have lc := kck.len
    rw [ei]
    have hm11 : 0 ≤ (i : Int) % 11 := Int.emod_nonneg _ (by decide)
    have hm12 : (i : Int) % 11 < 11 := Int.emod_lt_of_pos _ (by decide)
    walk_at "vs"
    intro p H5 s5 hp5 pl5
    have S5 := S4.trans s5
    have hp0 := same_none S4 hp5
    have eg5 := s5 _ _ eg4
    have ec5 := s5 _ _ ec4
    have el5 := s5 _ _ el4
    have bd5 := bd.tups (Same.tups s5)
    have fr : ∀ y ∈ [p], H y = none := fun y hy => by
      have : y = p := by simpa using hy
      rw [this]; exact hp0
    have ngp : g ∉ [p] := fun z => by
      have : g = p := by simpa using z
      rw [← this, eg4] at hp5; cases hp5
    have ncp : c ∉ [p] := fun z => by
      have : c = p := by simpa using z
      rw [← this, ec4] at hp5; cases hp5
    have nlp := pl5.nel el5
    have ngl : g ≠ l := fun z => by rw [z, el5] at eg5; cases eg5
    have ncl : c ≠ l := fun z => by rw [z, el5] at ec5; cases ec5
    have hzl : ((nmK i).map V.str).length < sizeLine := by rw [List.length_map, nmK_len]; exact small1000 (by omega)
    obtain ⟨rest, mixed, count, ep5, hct0, hct1⟩ := id pl5
    have dr := pool_rest ep5
    have hdv : 0 ≤ (i : Int) / 11 := Int.ediv_nonneg (by omega) (by decide)
    have hdv2 : (i : Int) / 11 ≤ (i : Int) := Int.ediv_le_self _ (by omega)
    have cm : CMul 31 (i : Int) := .inl ⟨by decide, by decide⟩
    have dpr := pool_put_rest ep5 (rest / ((i : Int) / 11 + 1) + 31 * (i : Int))
    have cdv' : CDivB rest ((i : Int) / 11 + 1) := ⟨by omega, Nat.lt_of_le_of_lt (Nat.log2_le_self _) (by omega)⟩
    have hml : most.natAbs.log2 < 9000 := Nat.lt_of_le_of_lt (Nat.log2_le_self _) (by omega)
    have pl6 : PoolAt (upd H5 p (.dK (poolD (rest / ((i : Int) / 11 + 1) + 31 * (i : Int)) mixed count))) p 503 := ⟨_, _, _, upd_same, hct0, hct1⟩
    have B6 : But [p] H5 (upd H5 p (.dK (poolD (rest / ((i : Int) / 11 + 1) + 31 * (i : Int)) mixed count))) := But.set _ (by simp)
    walk_at "vs"
    intro way H7 w0 w1 b7 pl7
    have B7 := B6.trans b7
    have S7 := but_same S5 fr B7
    have eg7 := B7 _ _ ngp eg5
    have ec7 := B7 _ _ ncp ec5
    have el7 := B7 _ _ nlp el5
    have bd7 := bd5.tups (pl5.tups B7)
    clear b7 B6 pl6 dpr
    have done : ∀ (H6 : Hp) (σ6 : L2.St) gv rc kg kc, (∃ t u v w, σ6 = [some (.ref h), some (.ref a), some (.int start), some (.int most), some (.ref g), some (.ref c), some (.ref l), some (.int ((kg0.length : Int) + (kc0.length : Int))), t, u, v, w]) → Same H H6 → H6 g = some (.dK kg) → H6 c = some (.dK kc) → H6 l = some (.lst ((nmK i).map V.str)) → Bld H6 kg kc n gv rc →
        (∃ t u v w, σ6 = [some (.ref h), some (.ref a), some (.int start), some (.int most), some (.ref g), some (.ref c), some (.ref l), some (.int ((kg0.length : Int) + (kc0.length : Int))), t, u, v, w]) ∧ Same H (upd H6 l (.lst ((nmK i).map V.str ++ [.str (nameK i)]))) ∧ ∃ gv rc kg kc, (upd H6 l (.lst ((nmK i).map V.str ++ [.str (nameK i)]))) g = some (.dK kg) ∧ (upd H6 l (.lst ((nmK i).map V.str ++ [.str (nameK i)]))) c = some (.dK kc) ∧ (upd H6 l (.lst ((nmK i).map V.str ++ [.str (nameK i)]))) l = some (.lst ((nmK (i + 1)).map V.str)) ∧ Bld (upd H6 l (.lst ((nmK i).map V.str ++ [.str (nameK i)]))) kg kc n gv rc := by
      intro H6 σ6 gv rc kg kc hσ S6 e1 e2 e3 b
      refine ⟨hσ, same_updN _ hl0 S6, gv, rc, kg, kc, (upd_ne ngl).trans e1, (upd_ne ncl).trans e2, ?_, b.tups fun y xs z => (upd_ne (fun w => by rw [w, e3] at z; cases z)).trans z⟩
      rw [upd_same, nmK_succ, List.map_append]; rfl
    have dgg : DGet H7 g (.str (nameK i)) ((gv (nameK i)).map V.int) := by
      rw [← bd7.g]; exact DGet.k (k := .inr (nameK i)) eg7
    have dgc : DGet H7 c (.str (nameK i)) (valV kc (.inr (nameK i))) := DGet.k (k := .inr (nameK i)) ec7
    have hkgl : kg.length < sizeLine := small1000 (by omega)
    have hkcl : kc.length < sizeLine := small1000 (by omega)
    have hway : way = 0 ∨ way = 1 ∨ (¬ way = 0 ∧ ¬ way = 1) := by omega
    rcases hway with rfl | rfl | ⟨nw0, nw1⟩
    · cases egv : gv (nameK i) with
      | some v0 =>
        rw [egv] at dgg
        have dgg : DGet H7 g (.str (nameK i)) (some (.int v0)) := dgg
        have cp : CPow 10 9 := ⟨by decide, by decide, by decide⟩
        walk_at "vs"
        intro pz hpz
        have npz : pz ∉ [p] := fun z => pl7.ne hpz (by simpa using z)
        have s8 := same_new (.lst [V.int 1, V.int (-1), V.int 2, V.int ((10 : Int) ^ (9 : Int).toNat)]) hpz
        have e8 : upd H7 pz (.lst [V.int 1, V.int (-1), V.int 2, V.int ((10 : Int) ^ (9 : Int).toNat)]) pz = some (.lst [V.int 1, V.int (-1), V.int 2, V.int ((10 : Int) ^ (9 : Int).toNat)]) := upd_same
        have pl8 := pl7.same s8
        have B8 : But [p] H7 (upd H7 pz (.lst [V.int 1, V.int (-1), V.int 2, V.int ((10 : Int) ^ (9 : Int).toNat)])) := But.of_same s8
        generalize upd H7 pz (.lst [V.int 1, V.int (-1), V.int 2, V.int ((10 : Int) ^ (9 : Int).toNat)]) = H8 at *
        walk_at "vs"
        intro n9 H9 n90 n91 b9 pl9
        have B9 := B8.trans b9
        have S9 := but_same S7 fr B9
        have e9 := b9 _ _ npz e8
        have eg9 := B9 _ _ ngp eg7
        have ec9 := B9 _ _ ncp ec7
        have el9 := B9 _ _ nlp el7
        have bd9 := bd7.tups (pl7.tups B9)
        obtain ⟨dd, hdd⟩ : ∃ dd : Int, atI [V.int 1, V.int (-1), V.int 2, V.int ((10 : Int) ^ (9 : Int).toNat)] n9 = some (.int dd) := by
          have : n9 = 0 ∨ n9 = 1 ∨ n9 = 2 ∨ n9 = 3 := by omega
          rcases this with rfl | rfl | rfl | rfl <;> exact ⟨_, rfl⟩
        have dp : DPut H9 g (.str (nameK i)) (.int (v0 + dd)) (upd H9 g (.dK (putK kg (.inr (nameK i)) (.int (v0 + dd))))) := DPut.k (k := .inr (nameK i)) eg9 hkgl
        walk_at "vs"
        have t11 : Tups H9 (upd H9 g (.dK (putK kg (.inr (nameK i)) (.int (v0 + dd))))) := fun y xs z => (upd_ne (fun w => by rw [w, eg9] at z; cases z)).trans z
        exact done _ _ _ _ _ _ ⟨_, _, _, _, rfl⟩ (same_updN _ hg0 S9) upd_same ((upd_ne (Ne.symm ngc)).trans ec9) ((upd_ne (Ne.symm ngl)).trans el9) ((bd9.tups t11).setG1 hin (by rw [egv]; simp) _)
      | none =>
        rw [egv] at dgg
        have dgg : DGet H7 g (.str (nameK i)) none := dgg
        have hrn : rc (nameK i) ≠ none := by
          rcases bd7.ok.dom i hin with z | z
          · exact absurd egv z
          · exact z
        have i0 : 0 < i := by
          rcases Nat.eq_zero_or_pos i with z | z
          · subst z; exact absurd egv (bd7.ok.g0 hin)
          · exact z
        obtain ⟨ns, ecut, hn1, hn9, hns⟩ := cut9 i0
        have hgn : ∀ x ∈ ns, GName x := fun x hx => nmK_good (by omega) x (hns x hx)
        walk_at "vs"
        intro pc hpc
        rw [ecut]
        have s8 := same_new (.lst (ns.map V.str)) hpc
        have e8 : upd H7 pc (.lst (ns.map V.str)) pc = some (.lst (ns.map V.str)) := upd_same
        have pl8 := pl7.same s8
        have B8 : But [p] H7 (upd H7 pc (.lst (ns.map V.str))) := But.of_same s8
        have npc : pc ∉ [p] := fun z => pl7.ne hpc (by simpa using z)
        generalize upd H7 pc (.lst (ns.map V.str)) = H8 at *
        walk_at "vs"
        intro br r H10 b10 pl10 R10 ok10
        have B10 := B8.trans b10
        have S10 := but_same S7 fr B10
        have eg10 := B10 _ _ ngp eg7
        have ec10 := B10 _ _ ncp ec7
        have el10 := B10 _ _ nlp el7
        have bd10 := bd7.tups (pl7.tups B10)
        have dp : DPut H10 c (.str (nameK i)) (.ref br) (upd H10 c (.dK (putK kc (.inr (nameK i)) (.ref br)))) := DPut.k (k := .inr (nameK i)) ec10 hkcl
        walk_at "vs"
        have t11 : Tups H10 (upd H10 c (.dK (putK kc (.inr (nameK i)) (.ref br)))) := fun y xs z => (upd_ne (fun w => by rw [w, ec10] at z; cases z)).trans z
        have el11 : upd H10 c (.dK (putK kc (.inr (nameK i)) (.ref br))) l = some (.lst ((nmK i).map V.str)) := (upd_ne (Ne.symm ncl)).trans el10
        have S11 := same_updN (.dK (putK kc (.inr (nameK i)) (.ref br))) hc0 S10
        have ec11 : upd H10 c (.dK (putK kc (.inr (nameK i)) (.ref br))) c = some (.dK (putK kc (.inr (nameK i)) (.ref br))) := upd_same
        have eg11 := (upd_ne ngc : upd H10 c (.dK (putK kc (.inr (nameK i)) (.ref br))) g = H10 g).trans eg10
        exact done _ _ _ _ _ _ ⟨_, _, _, _, rfl⟩ S11 eg11 ec11 el11 ((bd10.tups t11).setR1 (by omega) hin i0 hrn (ok10.mono hns) (R10.tups t11))
    · cases erc : rc (nameK i) with
      | some r0 =>
        obtain ⟨b0, hb0, _⟩ := bd7.r _ _ erc
        rw [hb0] at dgc
        walk_at "vs"
        refine ⟨.inl ⟨_, .inl ec7⟩, _, rfl, kc, .inr (nameK i), _, ec7, rfl, hb0, ?_⟩
        have ncp' : c ≠ p := fun z => ncp (by simp [z])
        have S8 := same_updN (.dK (dropK kc (.inr (nameK i)))) hc0 S7
        have t8 : Tups H7 (upd H7 c (.dK (dropK kc (.inr (nameK i))))) := fun y xs z => (upd_ne (fun w => by rw [w, ec7] at z; cases z)).trans z
        have pl8 : PoolAt (upd H7 c (.dK (dropK kc (.inr (nameK i))))) p (503 + 1) := pl7.keep (But.set (S := [c]) _ (by simp)) (by simpa using Ne.symm ncp')
        have eg8 : upd H7 c (.dK (dropK kc (.inr (nameK i)))) g = some (.dK kg) := (upd_ne ngc).trans eg7
        have el8 : upd H7 c (.dK (dropK kc (.inr (nameK i)))) l = some (.lst ((nmK i).map V.str)) := (upd_ne (Ne.symm ncl)).trans el7
        have ec8 : upd H7 c (.dK (dropK kc (.inr (nameK i)))) c = some (.dK (dropK kc (.inr (nameK i)))) := upd_same
        have bd8 := bd7.tups t8
        generalize upd H7 c (.dK (dropK kc (.inr (nameK i)))) = H8 at *
        walk_at "vs"
        intro n9 H9 n90 n91 b9 pl9
        have S9 := but_same S8 fr b9
        have eg9 := b9 _ _ ngp eg8
        have ec9 := b9 _ _ ncp ec8
        have el9 := b9 _ _ nlp el8
        have bd9 := bd8.tups (pl8.tups b9)
        have dp : DPut H9 g (.str (nameK i)) (.int (n9 - 4)) (upd H9 g (.dK (putK kg (.inr (nameK i)) (.int (n9 - 4))))) := DPut.k (k := .inr (nameK i)) eg9 hkgl
        walk_at "vs"
        have t11 : Tups H9 (upd H9 g (.dK (putK kg (.inr (nameK i)) (.int (n9 - 4))))) := fun y xs z => (upd_ne (fun w => by rw [w, eg9] at z; cases z)).trans z
        exact done _ _ _ _ _ _ ⟨_, _, _, _, rfl⟩ (same_updN _ hg0 S9) upd_same ((upd_ne (Ne.symm ngc)).trans ec9) ((upd_ne (Ne.symm ngl)).trans el9) ((bd9.tups t11).setG2 hin (by rw [erc]; simp) _)
      | none =>
        have hcn := bd7.rn _ erc
        rw [hcn] at dgc
        have hgs : ∃ v0, gv (nameK i) = some v0 := by
          cases e : gv (nameK i) with
          | some v0 => exact ⟨v0, rfl⟩
          | none =>
            rcases bd7.ok.dom i hin with z | z
            · exact absurd e z
            · exact absurd erc z
        obtain ⟨v0, egv⟩ := hgs
        walk_at "vs"
        refine ite2 (fun ck => ?_) (fun ck => ?_)
        · have i0 : 0 < i := by
            have : (i : Int) > 0 := by simpa using ck
            omega
          walk_at "vs"
          have hv0 : valV kg (.inr (nameK i)) = some (.int v0) := by rw [bd7.g, egv]; rfl
          refine ⟨.inl ⟨_, .inl eg7⟩, _, rfl, kg, .inr (nameK i), _, eg7, rfl, hv0, ?_⟩
          have ngp' : g ≠ p := fun z => ngp (by simp [z])
          have S6 := same_updN (.dK (dropK kg (.inr (nameK i)))) hg0 S7
          have t6 : Tups H7 (upd H7 g (.dK (dropK kg (.inr (nameK i))))) := fun y xs z => (upd_ne (fun w => by rw [w, eg7] at z; cases z)).trans z
          have pl6 : PoolAt (upd H7 g (.dK (dropK kg (.inr (nameK i))))) p (503 + 1) := pl7.keep (But.set (S := [g]) _ (by simp)) (by simpa using Ne.symm ngp')
          have ec6 : upd H7 g (.dK (dropK kg (.inr (nameK i)))) c = some (.dK kc) := (upd_ne (Ne.symm ngc)).trans ec7
          have el6 : upd H7 g (.dK (dropK kg (.inr (nameK i)))) l = some (.lst ((nmK i).map V.str)) := (upd_ne (Ne.symm ngl)).trans el7
          have eg6 : upd H7 g (.dK (dropK kg (.inr (nameK i)))) g = some (.dK (dropK kg (.inr (nameK i)))) := upd_same
          have bd6 := bd7.tups t6
          generalize upd H7 g (.dK (dropK kg (.inr (nameK i)))) = H6 at *
          obtain ⟨ns, ecut, hn1, hn9, hns⟩ := cut9 i0
          have hgn : ∀ x ∈ ns, GName x := fun x hx => nmK_good (by omega) x (hns x hx)
          walk_at "vs"
          intro pc hpc
          rw [ecut]
          have s8 := same_new (.lst (ns.map V.str)) hpc
          have e8 : upd H6 pc (.lst (ns.map V.str)) pc = some (.lst (ns.map V.str)) := upd_same
          have pl8 := pl6.same s8
          have B8 : But [p] H6 (upd H6 pc (.lst (ns.map V.str))) := But.of_same s8
          have npc : pc ∉ [p] := fun z => pl6.ne hpc (by simpa using z)
          generalize upd H6 pc (.lst (ns.map V.str)) = H8 at *
          walk_at "vs"
          intro br r H10 b10 pl10 R10 ok10
          have B10 := B8.trans b10
          have S10 := but_same S6 fr B10
          have eg10 := B10 _ _ ngp eg6
          have ec10 := B10 _ _ ncp ec6
          have el10 := B10 _ _ nlp el6
          have bd10 := bd6.tups (pl6.tups B10)
          have dp : DPut H10 c (.str (nameK i)) (.ref br) (upd H10 c (.dK (putK kc (.inr (nameK i)) (.ref br)))) := DPut.k (k := .inr (nameK i)) ec10 hkcl
          walk_at "vs"
          have t11 : Tups H10 (upd H10 c (.dK (putK kc (.inr (nameK i)) (.ref br)))) := fun y xs z => (upd_ne (fun w => by rw [w, ec10] at z; cases z)).trans z
          have el11 : upd H10 c (.dK (putK kc (.inr (nameK i)) (.ref br))) l = some (.lst ((nmK i).map V.str)) := (upd_ne (Ne.symm ncl)).trans el10
          have S11 := same_updN (.dK (putK kc (.inr (nameK i)) (.ref br))) hc0 S10
          have ec11 : upd H10 c (.dK (putK kc (.inr (nameK i)) (.ref br))) c = some (.dK (putK kc (.inr (nameK i)) (.ref br))) := upd_same
          have eg11 := (upd_ne ngc : upd H10 c (.dK (putK kc (.inr (nameK i)) (.ref br))) g = H10 g).trans eg10
          exact done _ _ _ _ _ _ ⟨_, _, _, _, rfl⟩ S11 eg11 ec11 el11 ((bd10.tups t11).setR2 (by omega) hin i0 erc (ok10.mono hns) (R10.tups t11))
        · walk_at "vs"
          exact done _ _ _ _ _ _ ⟨_, _, _, _, rfl⟩ S7 eg7 ec7 el7 bd7
    · walk_at "vs"
      refine ite2 (fun z => absurd (V.int.inj (of_decide_eq_true z)) nw0) (fun _ => ?_)
      walk_at "vs"
      refine ite2 (fun z => absurd (V.int.inj (of_decide_eq_true z)) nw0) (fun _ => ?_)
      walk_at "vs"
      refine ite2 (fun z => absurd (V.int.inj (of_decide_eq_true z)) nw1) (fun _ => ?_)
      walk_at "vs"
      refine ite2 (fun z => absurd (V.int.inj (of_decide_eq_true z)) nw1) (fun _ => ?_)
      walk_at "vs"
      exact done _ _ _ _ _ _ ⟨_, _, _, _, rfl⟩ S7 eg7 ec7 el7 bd7
  · intro σ H4 hP
    obtain ⟨⟨t, u, v, w, rfl⟩, S4, gv, rc, kg, kc, eg4, ec4, el4, bd⟩ := hP
    walk_at "vs"
    intro h2 hh
    have s5 := same_new (.tup [.ref g, .ref c]) hh
    exact q h2 g c gv rc _ (S4.trans s5) (same_none S4 hh) hg0 hc0 ⟨kg, kc, upd_same, s5 _ _ eg4, s5 _ _ ec4, bd.tups (Same.tups s5)⟩
end

section
variable {P : Program} {w : World} {K : PySem.W.Frag} {mg : Str → Option Value} {base : Heap}
noncomputable abbrev s_law_settled : Stmt := top 17
theorem sc_law_settled : FnScope ["house", "name", "state", "worths", "records", "reads", "worth"] ["house", "name", "state"] (defScope s_law_settled) := ⟨rfl, rfl, rfl, by decide +kernel, rfl, by decide +kernel, by decide +kernel⟩
theorem vo_law_settled_state : VarOk (defScope s_law_settled) "state" := by decide +kernel
theorem lo_law_settled_records : Loc (defScope s_law_settled) "records" := by decide +kernel
theorem lo_law_settled_worths : Loc (defScope s_law_settled) "worths" := by decide +kernel
theorem vo_law_settled_name : VarOk (defScope s_law_settled) "name" := by decide +kernel
theorem vo_law_settled_house : VarOk (defScope s_law_settled) "house" := by decide +kernel
theorem vo_law_settled_worths : VarOk (defScope s_law_settled) "worths" := by decide +kernel
theorem lo_law_settled_reads : Loc (defScope s_law_settled) "reads" := by decide +kernel
theorem lo_law_settled_worth : Loc (defScope s_law_settled) "worth" := by decide +kernel
theorem gl_law_settled__law_value : (defScope s_law_settled).names.lookup ("_law_value" : Str) = some NameKind.globalImplicit := by decide +kernel
theorem vo_law_settled_reads : VarOk (defScope s_law_settled) "reads" := by decide +kernel
theorem db_law_settled__law_value : (("_law_value" : Str) == ("__debug__" : Str)) = false := by decide +kernel
theorem vo_law_settled_records : VarOk (defScope s_law_settled) "records" := by decide +kernel
theorem vo_law_settled_worth : VarOk (defScope s_law_settled) "worth" := by decide +kernel
noncomputable abbrev s_law_look : Stmt := top 16
theorem sc_law_look : FnScope ["house", "name", "state", "reads", "worth"] ["house", "name", "state", "reads"] (defScope s_law_look) := ⟨rfl, rfl, rfl, by decide +kernel, rfl, by decide +kernel, by decide +kernel⟩
theorem lo_law_look_worth : Loc (defScope s_law_look) "worth" := by decide +kernel
theorem gl_law_look__law_settled : (defScope s_law_look).names.lookup ("_law_settled" : Str) = some NameKind.globalImplicit := by decide +kernel
theorem vo_law_look_state : VarOk (defScope s_law_look) "state" := by decide +kernel
theorem vo_law_look_name : VarOk (defScope s_law_look) "name" := by decide +kernel
theorem vo_law_look_house : VarOk (defScope s_law_look) "house" := by decide +kernel
theorem db_law_look__law_settled : (("_law_settled" : Str) == ("__debug__" : Str)) = false := by decide +kernel
theorem vo_law_look_worth : VarOk (defScope s_law_look) "worth" := by decide +kernel
theorem vo_law_look_reads : VarOk (defScope s_law_look) "reads" := by decide +kernel
theorem ok_law_look {k0 : Nat} {f g : Addr} {fd gd : FuncData} (T_law_look : FnT K mg "_law_look" s_law_look ["house", "name", "state", "reads"] f fd) (T_law_settled : FnT K mg "_law_settled" s_law_settled ["house", "name", "state"] g gd) (G_law_settled : FnOk P w K mg base CX0 (8 * k0 + 1) g gd ["house", "name", "state"] (sp3Set k0)) (T : Blt mg) :
    FnOk P w K mg base CX0 (8 * k0 + 2) f fd ["house", "name", "state", "reads"] (sp3Lk k0) := by
  refine T_law_look.F.okQ sc_law_look (fun vs H Q E h => ?_) (fun cdv A outer s H vs Q E hr h => ?_)
  · obtain ⟨X, h, g, c, st, wd, rd, rl, n, gv, rc, kn, rm, as, ps, k, rfl, _⟩ := h
    rfl
  obtain ⟨X, h, hg, hc, st, wd, rd, rl, n, gv, rc, kn, rm, as, ps, k, rfl, cx, hkf, hkn, el, hRs, hrow, hrX, hrs, q⟩ := h
  refine ⟨_, (qss_cons (qs_set (i := 4) sc_law_look.nd rfl lo_law_look_worth (qe_call (G_law_settled.mono (by omega)) hr gl_law_look__law_settled T_law_settled.m T_law_settled.F.kp T_law_settled.b .nil pass0 (qa_N (qe_var 0 vo_law_look_house) (qa_N (qe_var 1 vo_law_look_name) (qa_N (qe_var 2 vo_law_look_state) qa_nil))) db_law_look__law_settled))
    (qss_cons (qs_if (qt_cmp (qop_notInP hr.units) (qe_tup (qa_N (qe_var 1 vo_law_look_name) (qa_N (qe_var 4 vo_law_look_worth) qa_nil))) (qe_var 3 vo_law_look_reads) rfl) (qss_one (qs_expr (qe_bm PySem.F.plainAttrs_list PySem.F.slot_list_append PySem.F.type_list_append qmt_append (qe_var 3 vo_law_look_reads) (qa_T (qe_tup (qa_N (qe_var 1 vo_law_look_name) (qa_N (qe_var 4 vo_law_look_worth) qa_nil))) qa_nil)))) qss_nil)
    (qss_one (qs_ret (qe_var 4 vo_law_look_worth))))), ?_⟩
  have n17 := cx.n17
  have hlw : rl ∉ [wd, rd] := fun z => by
    obtain ⟨kw, ws, e1, _⟩ := cx.sa.ew
    obtain ⟨kr, rs, e2, _⟩ := cx.sa.er
    have z : rl = wd ∨ rl = rd := by simpa using z
    rcases z with z | z
    · rw [z, e1] at el; cases el
    · rw [z, e2] at el; cases el
  walk_at "vs"
  intro kn1 rm1 v H1 b1 cx1 nw1 hv
  have t1 : Tups H H1 := cx.sa.tups (S := [wd, rd]) (fun y hy => by
    have z : y = wd ∨ y = rd := by simpa using hy
    exact z.elim .inl fun z => .inr (.inl z)) b1
  have el1 := b1 _ _ hlw el
  have hRs1 := hRs.tups t1
  have hrow1 := hrow.le nw1.1
  have lk := hrow1.look hv
  have hgn : ∀ p ∈ ps, GName p.1 := fun p hp => nmK_good (by omega) _ (cx1.sa.ok.a _ _ (hrow1.s p hp)).1
  walk_at "vs"
  intro pt hpt
  have s2 := same_new (.tup [.str (nameK k), .int v]) hpt
  have ept : upd H1 pt (.tup [.str (nameK k), .int v]) pt = some (.tup (rdV (nameK k, v))) := upd_same
  have el2 := s2 _ _ el1
  have hRs2 := hRs1.same s2
  have b2 : But [wd, rd, rl] H (upd H1 pt (.tup [.str (nameK k), .int v])) := (b1.mono (by simp)).trans (But.of_same s2)
  have cx2 : Ctx X (upd H1 pt (.tup [.str (nameK k), .int v])) h hg hc st wd rd n gv rc kn1 rm1 := cx1.same s2
  generalize upd H1 pt (.tup [.str (nameK k), .int v]) = H2 at *
  refine ⟨_, rfl, pt, rl, as, ps, (nameK k, v), rfl, rfl, ept, SqL.of el2, hRs2, hgn, nameK_good (k := k) (by omega), ?_⟩
  by_cases hm : (nameK k, v) ∈ ps
  · rw [if_pos hm] at lk
    rw [decide_eq_true hm]
    walk_at "vs"
    exact q kn1 rm1 v [] as H2 b2 cx2 nw1 el2 (by rw [List.append_nil]; exact hRs2) (by rw [List.append_nil]; exact hrow1) lk
  · rw [if_neg hm] at lk
    rw [decide_eq_false hm]
    have hz : (as.map V.ref).length < sizeLine := by
      rw [List.length_map, hRs.length]
      have := Rows.len cx1.sa hrow1
      exact small1000 (by omega)
    walk_at "vs"
    intro pu hpu
    have s3 := same_new (.tup [.str (nameK k), .int v]) hpu
    have epu : upd H2 pu (.tup [.str (nameK k), .int v]) pu = some (.tup (rdV (nameK k, v))) := upd_same
    have el3 := s3 _ _ el2
    have hRs3 := IsRds.snoc epu (hRs2.same s3)
    have b3 := b2.trans (But.of_same (S := [wd, rd, rl]) s3)
    have cx3 := cx2.same s3
    generalize upd H2 pu (.tup [.str (nameK k), .int v]) = H3 at *
    walk_at "vs"
    have t4 : Tups H3 (upd H3 rl (.lst (as.map V.ref ++ [V.ref pu]))) := fun y xs z => (upd_ne (fun w => by rw [w, el3] at z; cases z)).trans z
    exact q kn1 rm1 v [(nameK k, v)] (as ++ [pu]) _ (b3.trans (But.set _ (by simp))) (cx3.row el3 hrX hrs _) nw1 (by rw [upd_same, List.map_append]; rfl) (hRs3.tups t4) lk.2 lk.1
noncomputable abbrev s_law_value : Stmt := top 15
theorem sc_law_value : FnScope ["house", "r", "state", "reads", "word", "one", "other"] ["house", "r", "state", "reads"] (defScope s_law_value) := ⟨rfl, rfl, rfl, by decide +kernel, rfl, by decide +kernel, by decide +kernel⟩
theorem lo_law_value_word : Loc (defScope s_law_value) "word" := by decide +kernel
theorem vo_law_value_r : VarOk (defScope s_law_value) "r" := by decide +kernel
theorem vo_law_value_word : VarOk (defScope s_law_value) "word" := by decide +kernel
theorem gl_law_value__law_look : (defScope s_law_value).names.lookup ("_law_look" : Str) = some NameKind.globalImplicit := by decide +kernel
theorem vo_law_value_reads : VarOk (defScope s_law_value) "reads" := by decide +kernel
theorem vo_law_value_state : VarOk (defScope s_law_value) "state" := by decide +kernel
theorem vo_law_value_house : VarOk (defScope s_law_value) "house" := by decide +kernel
theorem db_law_value__law_look : (("_law_look" : Str) == ("__debug__" : Str)) = false := by decide +kernel
theorem lo_law_value_one : Loc (defScope s_law_value) "one" := by decide +kernel
theorem gl_law_value__law_value : (defScope s_law_value).names.lookup ("_law_value" : Str) = some NameKind.globalImplicit := by decide +kernel
theorem db_law_value__law_value : (("_law_value" : Str) == ("__debug__" : Str)) = false := by decide +kernel
theorem vo_law_value_one : VarOk (defScope s_law_value) "one" := by decide +kernel
theorem gl_law_value_len : (defScope s_law_value).names.lookup ("len" : Str) = some NameKind.globalImplicit := by decide +kernel
theorem nn_law_value_len : ("len" : Str) ≠ "__name__" := by decide +kernel
theorem db_law_value_len : (("len" : Str) == ("__debug__" : Str)) = false := by decide +kernel
theorem gl_law_value_int : (defScope s_law_value).names.lookup ("int" : Str) = some NameKind.globalImplicit := by decide +kernel
theorem nn_law_value_int : ("int" : Str) ≠ "__name__" := by decide +kernel
theorem db_law_value_int : (("int" : Str) == ("__debug__" : Str)) = false := by decide +kernel
theorem lo_law_value_other : Loc (defScope s_law_value) "other" := by decide +kernel
theorem vo_law_value_other : VarOk (defScope s_law_value) "other" := by decide +kernel
theorem gl_law_value_max : (defScope s_law_value).names.lookup ("max" : Str) = some NameKind.globalImplicit := by decide +kernel
theorem nn_law_value_max : ("max" : Str) ≠ "__name__" := by decide +kernel
theorem db_law_value_max : (("max" : Str) == ("__debug__" : Str)) = false := by decide +kernel
theorem step_law_value {k0 d : Nat} {f g : Addr} {fd gd : FuncData} (T_law_value : FnT K mg "_law_value" s_law_value ["house", "r", "state", "reads"] f fd) (T_law_look : FnT K mg "_law_look" s_law_look ["house", "name", "state", "reads"] g gd) (G_law_look : FnOk P w K mg base CX0 (8 * k0 + 2) g gd ["house", "name", "state", "reads"] (sp3Lk k0))
    (G_law_value : FnOk P w K mg base CX0 (8 * k0 + 2 + d) f fd ["house", "r", "state", "reads"] (sp3Vl k0 d)) (T : Blt mg) : FnOk P w K mg base CX0 (8 * k0 + 2 + d + 1) f fd ["house", "r", "state", "reads"] (sp3Vl k0 (d + 1)) := by
  refine T_law_value.F.okQ sc_law_value (fun vs H Q E h => ?_) (fun cdv A outer s H vs Q E hr h => ?_)
  · obtain ⟨X, h, g, c, st, wd, rd, rl, b, n, gv, rc, kn, rm, as, ps, r, m, rfl, _⟩ := h
    rfl
  obtain ⟨X, h, hg, hc, st, wd, rd, rl, b, n, gv, rc, kn, rm, as, ps, r, m, rfl, cx, hR, hrk, hmf, hmn, el, hRs, hrow, hrX, hrs, q⟩ := h
  refine ⟨_, (qss_cons (qs_set (i := 4) sc_law_value.nd rfl lo_law_value_word (qe_ix qix_tup (qe_var 1 vo_law_value_r) qe_int))
    (qss_cons (qs_if (qt_cmp qop_eq (qe_var 4 vo_law_value_word) qe_str (nomarkQ _)) (qss_one (qs_ret (qe_ix qix_tup (qe_var 1 vo_law_value_r) qe_int))) qss_nil)
    (qss_cons (qs_if (qt_cmp qop_eq (qe_var 4 vo_law_value_word) qe_str (nomarkQ _)) (qss_one (qs_ret (qe_call (G_law_look.mono (by omega)) hr gl_law_value__law_look T_law_look.m T_law_look.F.kp T_law_look.b .nil pass0 (qa_N (qe_var 0 vo_law_value_house) (qa_S (qe_ix qix_tup (qe_var 1 vo_law_value_r) qe_int) (qa_N (qe_var 2 vo_law_value_state) (qa_N (qe_var 3 vo_law_value_reads) qa_nil)))) db_law_value__law_look))) qss_nil)
    (qss_cons (qs_set (i := 5) sc_law_value.nd rfl lo_law_value_one (qe_call (G_law_value.mono (by omega)) hr gl_law_value__law_value T_law_value.m T_law_value.F.kp T_law_value.b .nil pass0 (qa_N (qe_var 0 vo_law_value_house) (qa_S (qe_ix qix_tup (qe_var 1 vo_law_value_r) qe_int) (qa_N (qe_var 2 vo_law_value_state) (qa_N (qe_var 3 vo_law_value_reads) qa_nil)))) db_law_value__law_value))
    (qss_cons (qs_if (qt_cmp qop_eq (qe_var 4 vo_law_value_word) qe_str (nomarkQ _)) (qss_one (qs_ret (qe_call (G_law_look.mono (by omega)) hr gl_law_value__law_look T_law_look.m T_law_look.F.kp T_law_look.b .nil pass0 (qa_N (qe_var 0 vo_law_value_house) (qa_S (qe_ix qix_tup (qe_ix qix_tup (qe_var 1 vo_law_value_r) qe_int) (qe_op qop_mod (qe_var 5 vo_law_value_one) (qe_callB qc_len_seq gl_law_value_len T.b_len bt_len (qa_S (qe_ix qix_tup (qe_var 1 vo_law_value_r) qe_int) qa_nil) nn_law_value_len db_law_value_len))) (qa_N (qe_var 2 vo_law_value_state) (qa_N (qe_var 3 vo_law_value_reads) qa_nil)))) db_law_value__law_look))) qss_nil)
    (qss_cons (qs_if (qt_cmp qop_eq (qe_var 4 vo_law_value_word) qe_str (nomarkQ _)) (qss_one (qs_ret (qe_call (G_law_value.mono (by omega)) hr gl_law_value__law_value T_law_value.m T_law_value.F.kp T_law_value.b .nil pass0 (qa_N (qe_var 0 vo_law_value_house) (qa_S (qe_ix qix_tup (qe_var 1 vo_law_value_r) (qe_ix qix_list (qe_lst (qa_C qe_int (qa_C qe_int qa_nil))) (qe_callTy qc_intB gl_law_value_int T.b_int bt_int (qa_K (qe_cmp qop_gt (qe_var 5 vo_law_value_one) qe_int (nomarkQ _)) qa_nil) nn_law_value_int db_law_value_int))) (qa_N (qe_var 2 vo_law_value_state) (qa_N (qe_var 3 vo_law_value_reads) qa_nil)))) db_law_value__law_value))) qss_nil)
    (qss_cons (qs_set (i := 6) sc_law_value.nd rfl lo_law_value_other (qe_call (G_law_value.mono (by omega)) hr gl_law_value__law_value T_law_value.m T_law_value.F.kp T_law_value.b .nil pass0 (qa_N (qe_var 0 vo_law_value_house) (qa_S (qe_ix qix_tup (qe_var 1 vo_law_value_r) qe_int) (qa_N (qe_var 2 vo_law_value_state) (qa_N (qe_var 3 vo_law_value_reads) qa_nil)))) db_law_value__law_value))
    (qss_cons (qs_if (qt_cmp qop_eq (qe_var 4 vo_law_value_word) qe_str (nomarkQ _)) (qss_one (qs_ret (qe_op qop_mul (qe_var 5 vo_law_value_one) (qe_var 6 vo_law_value_other)))) qss_nil)
    (qss_cons (qs_if (qt_cmp qop_eq (qe_var 4 vo_law_value_word) qe_str (nomarkQ _)) (qss_one (qs_ret (qe_callB (qc_max2 rfl) gl_law_value_max T.b_max bt_max (qa_N (qe_var 5 vo_law_value_one) (qa_N (qe_var 6 vo_law_value_other) qa_nil)) nn_law_value_max db_law_value_max))) qss_nil)
    (qss_one (qs_ret (qe_op qop_add (qe_var 5 vo_law_value_one) (qe_ix qix_list (qe_lst (qa_N (qe_var 6 vo_law_value_other) (qa_B (qe_op qop_sub qe_int (qe_var 6 vo_law_value_other)) qa_nil))) (qe_callTy qc_intB gl_law_value_int T.b_int bt_int (qa_K (qe_cmp qop_eq (qe_var 4 vo_law_value_word) qe_str (nomarkQ _)) qa_nil) nn_law_value_int db_law_value_int)))))))))))))), ?_⟩
  have n17 := cx.n17
  have tp : ∀ {H0 H' : Hp} {kn0 rm0} {as0 : List Addr}, Ctx X H0 h hg hc st wd rd n gv rc kn0 rm0 → H0 rl = some (.lst (as0.map V.ref)) → But [wd, rd, rl] H0 H' → Tups H0 H' := fun cx0 e0 b0 => cx0.sa.tups (S := [wd, rd, rl]) (fun y hy => by
    have z : y = wd ∨ y = rd ∨ y = rl := by simpa using hy
    rcases z with z | z | z
    · exact .inl z
    · exact .inr (.inl z)
    · exact .inr (.inr ⟨_, by rw [z]; exact e0⟩)) b0
  have new2 : ∀ {a b c : Kn} {i j : Nat}, New a b i → New b c j → i ≤ m → j ≤ m → New a c m := fun n1 n2 h1 h2 => ⟨n1.1.trans n2.1, fun y hy => by
    rcases n2.2 y hy with z | z
    · rcases n1.2 y z with z | z
      · exact .inl z
      · obtain ⟨k, hk, e⟩ := mem_nmK.mp z
        exact .inr (mem_nmK.mpr ⟨k, by omega, e⟩)
    · obtain ⟨k, hk, e⟩ := mem_nmK.mp z
      exact .inr (mem_nmK.mpr ⟨k, by omega, e⟩)⟩
  have newm : ∀ {a b : Kn} {i : Nat}, New a b i → i ≤ m → New a b m := fun n1 h1 => ⟨n1.1, fun y hy => by
    rcases n1.2 y hy with z | z
    · exact .inl z
    · obtain ⟨k, hk, e⟩ := mem_nmK.mp z
      exact .inr (mem_nmK.mpr ⟨k, by omega, e⟩)⟩
  obtain ⟨rg, rt, ri, rdp⟩ := hrk
  cases hR with
  | @num _ nn e =>
    walk_at "vs"
    exact q kn rm nn [] as H (But.refl _ _) cx ⟨Kn.Le.refl _, fun y hy => .inl hy⟩ el (by rw [List.append_nil]; exact hRs) (by rw [List.append_nil]; exact hrow) got_num
  | @rd _ x e =>
    obtain ⟨k, hk, rfl⟩ := mem_nmK.mp ri
    walk_at "vs"
    intro kn1 rm1 v us as1 H1 b1 cx1 nw1 el1 hRs1 hrow1 got
    exact q kn1 rm1 v us as1 H1 b1 cx1 (newm nw1 (by omega)) el1 hRs1 hrow1 got
  | @bin _ x y op r1 r2 e h1 h2 =>
    have hd' : max r1.depth r2.depth + 1 ≤ d + 1 := rdp
    have k1 : Rk3 (nmK m) d r1 := ⟨rg.1, rt.1, ri.1, by omega⟩
    have k2 : Rk3 (nmK m) d r2 := ⟨rg.2, rt.2.1, ri.2, by omega⟩
    have leaf2 := rt.2.2
    cases op
    all_goals
      walk_at "vs"
      intro kn1 rm1 u us as1 H1 b1 cx1 nw1 el1 hRs1 hrow1 got1
      have t1 := tp cx el b1
      have e1 := t1 _ _ e
      have h21 := h2.tups t1
      walk_at "vs"
      intro kn2 rm2 v vs as2 H2 b2 cx2 nw2 el2 hRs2 hrow2 got2
      rw [Kn.puts_app] at got2
      rw [List.append_assoc] at hRs2 hrow2
      have b12 := b1.trans b2
    · walk_at "vs"
      intro pz hpz
      have s3 := same_new (.lst [V.int v, V.int (0 - v)]) hpz
      have hat : atI [V.int v, V.int (0 - v)] 0 = some (.int v) := rfl
      walk_at "vs"
      exact q kn2 rm2 (u + v) (us ++ vs) as2 _ (b12.trans (But.of_same s3)) (cx2.same s3) (new2 nw1 nw2 (Nat.le_refl _) (Nat.le_refl _)) (s3 _ _ el2) (hRs2.same s3) hrow2 (got_bin (op := .plus) got1 got2)
    · walk_at "vs"
      intro pz hpz
      have s3 := same_new (.lst [V.int v, V.int (0 - v)]) hpz
      have hat : atI [V.int v, V.int (0 - v)] 1 = some (.int (0 - v)) := rfl
      walk_at "vs"
      have := q kn2 rm2 (u - v) (us ++ vs) as2 _ (b12.trans (But.of_same s3)) (cx2.same s3) (new2 nw1 nw2 (Nat.le_refl _) (Nat.le_refl _)) (s3 _ _ el2) (hRs2.same s3) hrow2 (got_bin (op := .minus) got1 got2)
      rw [show u - v = u + (0 - v) by omega] at this
      exact this
    · obtain ⟨n0, rfl, hn0, hn1⟩ := leaf2 rfl
      have hv : v = n0 := by have := got2.e; cases this; rfl
      have cm : CMul u v := .inr ⟨by omega, by omega⟩
      walk_at "vs"
      exact q kn2 rm2 (u * v) (us ++ vs) as2 _ b12 cx2 (new2 nw1 nw2 (Nat.le_refl _) (Nat.le_refl _)) el2 hRs2 hrow2 (got_bin (op := .times) got1 got2)
    · walk_at "vs"
      exact q kn2 rm2 (if v > u then v else u) (us ++ vs) as2 _ b12 cx2 (new2 nw1 nw2 (Nat.le_refl _) (Nat.le_refl _)) el2 hRs2 hrow2 (got_bin (op := .most) got1 got2)
  | @pick _ x y z r1 r2 r3 e h1 h2 h3 =>
    have hd' : max r1.depth (max r2.depth r3.depth) + 1 ≤ d + 1 := rdp
    have k1 : Rk3 (nmK m) d r1 := ⟨rg.1, rt.1, ri.1, by omega⟩
    have k2 : Rk3 (nmK m) d r2 := ⟨rg.2.1, rt.2.1, ri.2.1, by omega⟩
    have k3 : Rk3 (nmK m) d r3 := ⟨rg.2.2, rt.2.2, ri.2.2, by omega⟩
    walk_at "vs"
    intro kn1 rm1 u us as1 H1 b1 cx1 nw1 el1 hRs1 hrow1 got1
    have t1 := tp cx el b1
    have e1 := t1 _ _ e
    walk_at "vs"
    intro pl hpl
    have s2 := same_new (.lst [V.int 3, V.int 2]) hpl
    have e2 : upd H1 pl (.lst [V.int 3, V.int 2]) pl = some (.lst [V.int 3, V.int 2]) := upd_same
    have b2 := b1.trans (But.of_same (S := [wd, rd, rl]) s2)
    have cx2 := cx1.same s2
    have el2 := s2 _ _ el1
    have hRs2 := hRs1.same s2
    have e12 := s2 _ _ e1
    have h22 := (h2.tups t1).same s2
    have h32 := (h3.tups t1).same s2
    generalize upd H1 pl (.lst [V.int 3, V.int 2]) = H2 at *
    by_cases hu : u > 0
    · have hat : atI [V.int 3, V.int 2] (if decide (u > 0) = true then 1 else 0) = some (.int 2) := by rw [if_pos (decide_eq_true hu)]; rfl
      walk_at "vs"
      intro kn2 rm2 v vs as2 H3 b3 cx3 nw2 el3 hRs3 hrow3 got2
      rw [Kn.puts_app] at got2
      rw [List.append_assoc] at hRs3 hrow3
      exact q kn2 rm2 v (us ++ vs) as2 H3 (b2.trans b3) cx3 (new2 nw1 nw2 (Nat.le_refl _) (Nat.le_refl _)) el3 hRs3 hrow3 (got_pick got1 (by rw [if_pos hu]; exact got2))
    · have hat : atI [V.int 3, V.int 2] (if decide (u > 0) = true then 1 else 0) = some (.int 3) := by rw [if_neg (by rw [decide_eq_false hu]; decide)]; rfl
      walk_at "vs"
      intro kn2 rm2 v vs as2 H3 b3 cx3 nw2 el3 hRs3 hrow3 got2
      rw [Kn.puts_app] at got2
      rw [List.append_assoc] at hRs3 hrow3
      exact q kn2 rm2 v (us ++ vs) as2 H3 (b2.trans b3) cx3 (new2 nw1 nw2 (Nat.le_refl _) (Nat.le_refl _)) el3 hRs3 hrow3 (got_pick got1 (by rw [if_neg hu]; exact got2))
  | @cho _ x y r1 ns e h1 h2 =>
    have hd' : r1.depth + 1 ≤ d + 1 := rdp
    have k1 : Rk3 (nmK m) d r1 := ⟨rg.1, rt.1, ri.1, by omega⟩
    walk_at "vs"
    intro kn1 rm1 u us as1 H1 b1 cx1 nw1 el1 hRs1 hrow1 got1
    have t1 := tp cx el b1
    have e1 := t1 _ _ e
    have h21 := t1 _ _ h2
    obtain ⟨nm, hnm⟩ := pick_some rt.2 u
    have hmem : nm ∈ ns := List.mem_of_getElem? hnm
    obtain ⟨k, hk, rfl⟩ := mem_nmK.mp (ri.2 nm hmem)
    have hlm : (ns.map V.str).length = ns.length := List.length_map _
    have hn1 := rt.2
    have hl0 : 0 < ((ns.map V.str).length : Int) := by rw [hlm]; omega
    have hat : atI (ns.map V.str) (u % ((ns.map V.str).length : Int)) = some (.str (nameK k)) := by
      rw [hlm]
      have hnm' := hnm
      unfold pickN at hnm'
      obtain ⟨j, ej⟩ := Int.eq_ofNat_of_zero_le (Int.emod_nonneg u (show (ns.length : Int) ≠ 0 by omega))
      rw [ej] at hnm' ⊢
      exact atI_nat (by rw [List.getElem?_map]; rw [Int.toNat_natCast] at hnm'; rw [hnm']; rfl)
    walk_at "vs"
    intro kn2 rm2 v vs as2 H3 b3 cx3 nw2 el3 hRs3 hrow3 got2
    rw [Kn.puts_app] at got2
    rw [List.append_assoc] at hRs3 hrow3
    exact q kn2 rm2 v (us ++ vs) as2 H3 (b1.trans b3) cx3 (new2 nw1 nw2 (Nat.le_refl _) (by omega)) el3 hRs3 hrow3 (got_cho got1 hnm got2)
theorem ok_law_value {k0 : Nat} {f g : Addr} {fd gd : FuncData} (T_law_value : FnT K mg "_law_value" s_law_value ["house", "r", "state", "reads"] f fd) (T_law_look : FnT K mg "_law_look" s_law_look ["house", "name", "state", "reads"] g gd) (G_law_look : FnOk P w K mg base CX0 (8 * k0 + 2) g gd ["house", "name", "state", "reads"] (sp3Lk k0)) (T : Blt mg) : ∀ d, FnOk P w K mg base CX0 (8 * k0 + 2 + d) f fd ["house", "r", "state", "reads"] (sp3Vl k0 d)
  | 0 => never fun vs H Q E h => by
    obtain ⟨X, h, g, c, st, wd, rd, rl, b, n, gv, rc, kn, rm, as, ps, r, m, _, _, _, hrk, _⟩ := h
    have := r.depth_pos
    have := hrk.d
    omega
  | d + 1 => step_law_value T_law_value T_law_look G_law_look (ok_law_value T_law_value T_law_look G_law_look T d) T
end

section
variable {P : Program} {w : World} {K : PySem.W.Frag} {mg : Str → Option Value} {base : Heap}
theorem step_law_settled {k0 : Nat} {f g : Addr} {fd gd : FuncData} (T_law_settled : FnT K mg "_law_settled" s_law_settled ["house", "name", "state"] f fd) (T_law_value : FnT K mg "_law_value" s_law_value ["house", "r", "state", "reads"] g gd) (G_law_value : FnOk P w K mg base CX0 (8 * k0 + 6) g gd ["house", "r", "state", "reads"] (sp3Vl k0 4)) (T : Blt mg) :
    FnOk P w K mg base CX0 (8 * k0 + 8 + 1) f fd ["house", "name", "state"] (sp3Set (k0 + 1)) := by
  refine T_law_settled.F.okQ sc_law_settled (fun vs H Q E h => ?_) (fun cdv A outer s H vs Q E hr h => ?_)
  · obtain ⟨X, h, g, c, st, wd, rd, n, gv, rc, kn, rm, k, rfl, _⟩ := h
    rfl
  obtain ⟨X, h, hg, hc, st, wd, rd, n, gv, rc, kn, rm, k, rfl, cx, hkf, hkn, q⟩ := h
  refine ⟨_, (qss_cons (qs_asg (qe_var 2 vo_law_settled_state) (qg_lst rfl (qgs_cons (qg_name (i := 3) sc_law_settled.nd rfl lo_law_settled_worths) (qgs_cons (qg_name (i := 4) sc_law_settled.nd rfl lo_law_settled_records) qgs_nil))))
    (qss_cons (qs_if (qt_w (qw_and (qt_dnotin (hu_of hr) (qe_var 1 vo_law_settled_name) (qe_var 3 vo_law_settled_worths)) (qw_and1 (qt_din (hu_of hr) (qe_var 1 vo_law_settled_name) (qe_ix qix_tup (qe_var 0 vo_law_settled_house) qe_int))))) (qss_one (qs_dput (hu_of hr) (qe_var 3 vo_law_settled_worths) (qe_var 1 vo_law_settled_name) (qe_dget (hu_of hr) (qe_ix qix_tup (qe_var 0 vo_law_settled_house) qe_int) (qe_var 1 vo_law_settled_name)))) qss_nil)
    (qss_cons (qs_if (qt_dnotin (hu_of hr) (qe_var 1 vo_law_settled_name) (qe_var 3 vo_law_settled_worths)) (qss_cons (qs_set (i := 5) sc_law_settled.nd rfl lo_law_settled_reads (qe_lst qa_nil))
    (qss_cons (qs_set (i := 6) sc_law_settled.nd rfl lo_law_settled_worth (qe_call (G_law_value.mono (by omega)) hr gl_law_settled__law_value T_law_value.m T_law_value.F.kp T_law_value.b .nil pass0 (qa_N (qe_var 0 vo_law_settled_house) (qa_S (qe_dget (hu_of hr) (qe_ix qix_tup (qe_var 0 vo_law_settled_house) qe_int) (qe_var 1 vo_law_settled_name)) (qa_N (qe_var 2 vo_law_settled_state) (qa_N (qe_var 5 vo_law_settled_reads) qa_nil)))) db_law_settled__law_value))
    (qss_cons (qs_dput (hu_of hr) (qe_var 4 vo_law_settled_records) (qe_var 1 vo_law_settled_name) (qe_tup (qa_S (qe_dget (hu_of hr) (qe_ix qix_tup (qe_var 0 vo_law_settled_house) qe_int) (qe_var 1 vo_law_settled_name)) (qa_N (qe_var 5 vo_law_settled_reads) (qa_N (qe_var 6 vo_law_settled_worth) qa_nil)))))
    (qss_one (qs_dput (hu_of hr) (qe_var 3 vo_law_settled_worths) (qe_var 1 vo_law_settled_name) (qe_var 6 vo_law_settled_worth)))))) qss_nil)
    (qss_one (qs_ret (qe_dget (hu_of hr) (qe_var 3 vo_law_settled_worths) (qe_var 1 vo_law_settled_name))))))), ?_⟩
  have n17 := cx.n17
  obtain ⟨kg, kc, eh, eg, ec, bd⟩ := cx.ho
  obtain ⟨kw, ws, ew, k4, v4⟩ := cx.sa.ew
  have hkl := cx.sa.kl ew
  have est := cx.sa.e
  have dw : DGet H wd (.str (nameK k)) ((kn (nameK k)).map V.int) := by rw [← v4]; exact DGet.k (k := .inr (nameK k)) ew
  have dg : DGet H hg (.str (nameK k)) ((gv (nameK k)).map V.int) := by rw [← bd.g]; exact DGet.k (k := .inr (nameK k)) eg
  have hx : nameK k ∈ nmK n := mem_nmK.mpr ⟨k, hkn, rfl⟩
  cases ek : kn (nameK k) with
  | some v =>
    rw [ek] at dw
    have dw : DGet H wd (.str (nameK k)) (some (.int v)) := dw
    walk_at "vs"
    exact q kn rm v H (But.refl _ _) cx ⟨Kn.Le.refl _, fun y hy => .inl hy⟩ ek
  | none =>
    rw [ek] at dw
    have dw : DGet H wd (.str (nameK k)) none := dw
    cases egv : gv (nameK k) with
    | some v =>
      rw [egv] at dg
      have dg : DGet H hg (.str (nameK k)) (some (.int v)) := dg
      have dp : DPut H wd (.str (nameK k)) (.int v) (upd H wd (.dK (putK kw (.inr (nameK k)) (.int v)))) := DPut.k (k := .inr (nameK k)) ew (small1000 (by omega))
      have dw1 : DGet (upd H wd (.dK (putK kw (.inr (nameK k)) (.int v)))) wd (.str (nameK k)) (some (.int v)) := by
        have := DGet.k (H := upd H wd (.dK (putK kw (.inr (nameK k)) (.int v)))) (a := wd) (k := .inr (nameK k)) upd_same
        rw [valV_put, if_pos rfl] at this
        exact this
      walk_at "vs"
      exact q (kn.put (nameK k) v) rm v _ (But.set _ (by simp)) (cx.putG ew hx ek egv) ⟨Kn.le_put ek, fun y hy => by
        unfold Kn.put at hy
        by_cases z : y = nameK k
        · exact .inr (mem_nmK.mpr ⟨k, by omega, z⟩)
        · rw [if_neg z] at hy; exact .inl hy⟩ (by unfold Kn.put; rw [if_pos rfl])
    | none =>
      rw [egv] at dg
      have dg : DGet H hg (.str (nameK k)) none := dg
      have hrc : ∃ r, rc (nameK k) = some r := by
        cases z : rc (nameK k) with
        | some r => exact ⟨r, rfl⟩
        | none =>
          rcases bd.ok.dom k hkn with w | w
          · exact absurd egv w
          · exact absurd z w
      obtain ⟨r, hr'⟩ := hrc
      obtain ⟨br, hbr, hRr⟩ := bd.r _ _ hr'
      obtain ⟨k', hk', ek', ok'⟩ := bd.ok.rk _ _ hr'
      have : k = k' := nameK_inj (by omega) (by omega) ek'
      subst this
      have dc : DGet H hc (.str (nameK k)) (some (.ref br)) := by rw [← hbr]; exact DGet.k (k := .inr (nameK k)) ec
      walk_at "vs"
      intro rl hrl
      have cx1 := cx.more hrl []
      have s1 := same_new (.lst []) hrl
      have el1 : upd H rl (.lst []) rl = some (.lst (([] : List Addr).map V.ref)) := upd_same
      have eh1 := s1 _ _ eh
      have ec1 := s1 _ _ ec
      have R1 := hRr.same s1
      have dc1 : DGet (upd H rl (.lst [])) hc (.str (nameK k)) (some (.ref br)) := by rw [← hbr]; exact DGet.k (k := .inr (nameK k)) ec1
      have hrst : rl ≠ st := fun z => by rw [z, est] at hrl; cases hrl
      have hrX : rl ∉ X := fun z => cx.xs rl z hrl
      have hrw : rl ≠ wd := fun z => by rw [z, ew] at hrl; cases hrl
      have hrr : rl ≠ rd := fun z => by
        obtain ⟨kr, rs, er, _⟩ := cx.sa.er
        rw [z, er] at hrl; cases hrl
      have hr0 := hrl
      generalize upd H rl (.lst []) = H1 at *
      have nil1 : IsRds H1 [] [] := .nil
      have nilR : Rows kn [] := ⟨by simp, by simp⟩
      have hin : rl ∈ rl :: X := by simp
      walk_at "vs"
      intro kn1 rm1 v us as2 H2 b2 cx2 nw2 el2 hRs2 hrow2 got2
      have t2 : Tups H1 H2 := cx1.sa.tups (S := [wd, rd, rl]) (fun y hy => by
        have z : y = wd ∨ y = rd ∨ y = rl := by simpa using hy
        rcases z with z | z | z
        · exact .inl z
        · exact .inr (.inl z)
        · exact .inr (.inr ⟨_, by rw [z]; exact el1⟩)) b2
      have ek1 : kn1 (nameK k) = none := by
        cases z : kn1 (nameK k) with
        | none => rfl
        | some u =>
          rcases nw2.2 (nameK k) (by rw [z]; simp) with w | w
          · exact absurd ek w
          · obtain ⟨j, hj, ej⟩ := mem_nmK.mp w
            have := nameK_inj (by omega) (by omega) ej
            omega
      obtain ⟨kg2, kc2, eh2, eg2, ec2, bd2⟩ := cx2.ho
      obtain ⟨kw2, ws2, ew2, k42, v42⟩ := cx2.sa.ew
      obtain ⟨kr2, rs2, er2, k52, v52, w52⟩ := cx2.sa.er
      have hkl2 := cx2.sa.kl ew2
      have hrl2 := cx2.sa.rl er2
      have ec2' : H2 hc = some (.dK kc) := b2 _ _ (by
        simp only [List.mem_cons, List.not_mem_nil, or_false, not_or]
        exact ⟨cx.cw, cx.cr, fun z => by rw [z, el1] at ec1; cases ec1⟩) ec1
      have dc2 : DGet H2 hc (.str (nameK k)) (some (.ref br)) := by rw [← hbr]; exact DGet.k (k := .inr (nameK k)) ec2'
      walk_at "vs"
      intro pb hpb
      have s3 := same_new (.tup [.ref br, .ref rl, .int v]) hpb
      have epb : upd H2 pb (.tup [.ref br, .ref rl, .int v]) pb = some (.tup [.ref br, .ref rl, .int v]) := upd_same
      have cx3 := (cx2.same s3).less
      have ew3 := s3 _ _ ew2
      have er3 := s3 _ _ er2
      have ra3 : RecA X (upd H2 pb (.tup [.ref br, .ref rl, .int v])) pb (r, us, v) := ⟨br, rl, as2, epb, (R1.tups t2).same s3, s3 _ _ el2, hRs2.same s3, hrX⟩
      have b3 : But [wd, rd, rl] H1 (upd H2 pb (.tup [.ref br, .ref rl, .int v])) := b2.trans (But.of_same s3)
      generalize upd H2 pb (.tup [.ref br, .ref rl, .int v]) = H3 at *
      have dp1 : DPut H3 rd (.str (nameK k)) (.ref pb) (upd H3 rd (.dK (putK kr2 (.inr (nameK k)) (.ref pb)))) := DPut.k (k := .inr (nameK k)) er3 (small1000 (by omega))
      have ew4 : upd H3 rd (.dK (putK kr2 (.inr (nameK k)) (.ref pb))) wd = some (.dK kw2) := (upd_ne cx3.sa.ne).trans ew3
      have dp2 : DPut (upd H3 rd (.dK (putK kr2 (.inr (nameK k)) (.ref pb)))) wd (.str (nameK k)) (.int v) (upd (upd H3 rd (.dK (putK kr2 (.inr (nameK k)) (.ref pb)))) wd (.dK (putK kw2 (.inr (nameK k)) (.int v)))) := DPut.k (k := .inr (nameK k)) ew4 (small1000 (by omega))
      have dw5 : DGet (upd (upd H3 rd (.dK (putK kr2 (.inr (nameK k)) (.ref pb)))) wd (.dK (putK kw2 (.inr (nameK k)) (.int v)))) wd (.str (nameK k)) (some (.int v)) := by
        have := DGet.k (H := upd (upd H3 rd (.dK (putK kr2 (.inr (nameK k)) (.ref pb)))) wd (.dK (putK kw2 (.inr (nameK k)) (.int v)))) (a := wd) (k := .inr (nameK k)) upd_same
        rw [valV_put, if_pos rfl] at this
        exact this
      walk_at "vs"
      have cx5 := cx3.putR ew3 er3 hx ek1 egv hr' got2 hrow2 ra3
      refine q (kn1.put (nameK k) v) (rm1.put (nameK k) (r, us, v)) v _ ?_ cx5 ⟨nw2.1.trans (Kn.le_put ek1), fun y hy => ?_⟩ (by unfold Kn.put; rw [if_pos rfl])
      · intro y o hy e
        have hyw : y ≠ wd := fun z => hy (by simp [z])
        have hyr : y ≠ rd := fun z => hy (by simp [z])
        have hyl : y ≠ rl := fun z => by rw [z, hr0] at e; cases e
        refine (upd_ne hyw).trans ((upd_ne hyr).trans (b3 _ _ (by simp only [List.mem_cons, List.not_mem_nil, or_false, not_or]; exact ⟨hyw, hyr, hyl⟩) (s1 _ _ e)))
      · unfold Kn.put at hy
        by_cases z : y = nameK k
        · exact .inr (mem_nmK.mpr ⟨k, by omega, z⟩)
        · rw [if_neg z] at hy
          rcases nw2.2 y hy with w | w
          · exact .inl w
          · obtain ⟨j, hj, ej⟩ := mem_nmK.mp w
            exact .inr (mem_nmK.mpr ⟨j, by omega, ej⟩)
end

section
variable {P : Program} {w : World} {K : PySem.W.Frag} {mg : Str → Option Value} {base : Heap}
theorem ok_law_settled {f g1 g2 : Addr} {fd gd1 gd2 : FuncData} (T_law_settled : FnT K mg "_law_settled" s_law_settled ["house", "name", "state"] f fd) (T_law_value : FnT K mg "_law_value" s_law_value ["house", "r", "state", "reads"] g1 gd1) (T_law_look : FnT K mg "_law_look" s_law_look ["house", "name", "state", "reads"] g2 gd2) (T : Blt mg) :
    ∀ k0, FnOk P w K mg base CX0 (8 * k0 + 1) f fd ["house", "name", "state"] (sp3Set k0)
  | 0 => never fun vs H Q E h => by
    obtain ⟨X, h, g, c, st, wd, rd, n, gv, rc, kn, rm, k, _, _, hk, _⟩ := h
    omega
  | k0 + 1 => step_law_settled T_law_settled T_law_value (ok_law_value T_law_value T_law_look (ok_law_look T_law_look T_law_settled (ok_law_settled T_law_settled T_law_value T_law_look T k0) T) T 4) T
noncomputable abbrev s_law_fresh : Stmt := top 18
theorem sc_law_fresh : FnScope ["house", "wishes", "state", "name"] ["house", "wishes"] (defScope s_law_fresh) := ⟨rfl, rfl, rfl, by decide +kernel, rfl, by decide +kernel, by decide +kernel⟩
theorem lo_law_fresh_state : Loc (defScope s_law_fresh) "state" := by decide +kernel
theorem vo_law_fresh_wishes : VarOk (defScope s_law_fresh) "wishes" := by decide +kernel
theorem lo_law_fresh_name : Loc (defScope s_law_fresh) "name" := by decide +kernel
theorem gl_law_fresh__law_settled : (defScope s_law_fresh).names.lookup ("_law_settled" : Str) = some NameKind.globalImplicit := by decide +kernel
theorem vo_law_fresh_state : VarOk (defScope s_law_fresh) "state" := by decide +kernel
theorem vo_law_fresh_name : VarOk (defScope s_law_fresh) "name" := by decide +kernel
theorem vo_law_fresh_house : VarOk (defScope s_law_fresh) "house" := by decide +kernel
theorem db_law_fresh__law_settled : (("_law_settled" : Str) == ("__debug__" : Str)) = false := by decide +kernel
theorem ok_law_fresh {f g1 : Addr} {fd gd1 : FuncData} (T_law_fresh : FnT K mg "_law_fresh" s_law_fresh ["house", "wishes"] f fd) (T_law_settled : FnT K mg "_law_settled" s_law_settled ["house", "name", "state"] g1 gd1) (G_law_settled : FnOk P w K mg base CX0 137 g1 gd1 ["house", "name", "state"] (sp3Set 17)) (T : Blt mg) :
    FnOk P w K mg base CX0 138 f fd ["house", "wishes"] sp3Fr := by
  refine T_law_fresh.F.okQ sc_law_fresh (fun vs H Q E h => ?_) (fun cdv A outer s H vs Q E hr h => ?_)
  · obtain ⟨h, g, c, wl, n, gv, rc, ws, rfl, _⟩ := h
    rfl
  obtain ⟨h, hg, hc, wl, n, gv, rc, ws, rfl, ho, n17, ewl, hws, q⟩ := h
  refine ⟨_, (qss_cons (qs_set (i := 2) sc_law_fresh.nd rfl lo_law_fresh_state (qe_lst (qa_D qe_dnewK (qa_D qe_dnewK qa_nil))))
    (qss_cons (qs_for PassesOwn.never rfl (qi_list (qe_var 1 vo_law_fresh_wishes)) (qg_name (i := 3) sc_law_fresh.nd rfl lo_law_fresh_name) (qss_one (qs_expr (qe_call (G_law_settled.mono (by omega)) hr gl_law_fresh__law_settled T_law_settled.m T_law_settled.F.kp T_law_settled.b .nil pass0 (qa_N (qe_var 0 vo_law_fresh_house) (qa_N (qe_var 3 vo_law_fresh_name) (qa_N (qe_var 2 vo_law_fresh_state) qa_nil))) db_law_fresh__law_settled))))
    (qss_one (qs_ret (qe_var 2 vo_law_fresh_state))))), ?_⟩
  obtain ⟨kg, kc, eh, eg, ec, bd⟩ := id ho
  walk_at "vs"
  intro wd hwd
  have s1 := same_new (.dK []) hwd
  have e1 : upd H wd (.dK []) wd = some (.dK []) := upd_same
  generalize upd H wd (.dK []) = H1 at *
  walk_at "vs"
  intro rd hrd
  have s2 := same_new (.dK []) hrd
  have e12 := s2 _ _ e1
  have e2 : upd H1 rd (.dK []) rd = some (.dK []) := upd_same
  have hrd0 := same_none s1 hrd
  have nwr : wd ≠ rd := fun z => by rw [← z, e1] at hrd; cases hrd
  have S2 := s1.trans s2
  generalize upd H1 rd (.dK []) = H2 at *
  walk_at "vs"
  intro st hst
  have s3 := same_new (.lst [.ref wd, .ref rd]) hst
  have e13 := s3 _ _ e12
  have e23 := s3 _ _ e2
  have e3 : upd H2 st (.lst [.ref wd, .ref rd]) st = some (.lst [.ref wd, .ref rd]) := upd_same
  have hst0 := same_none S2 hst
  have S3 := S2.trans s3
  generalize upd H2 st (.lst [.ref wd, .ref rd]) = H3 at *
  have ne0 : ∀ {y o}, H y = some o → y ≠ wd ∧ y ≠ rd ∧ y ≠ st := fun e => ⟨fun z => (by rw [z, hwd] at e; cases e), fun z => (by rw [z, hrd0] at e; cases e), fun z => (by rw [z, hst0] at e; cases e)⟩
  have ewl3 := S3 _ _ ewl
  have cx3 : Ctx [] H3 h hg hc st wd rd n gv rc kn0 (fun _ => none) := ⟨⟨kg, kc, S3 _ _ eh, S3 _ _ eg, S3 _ _ ec, bd.tups (Same.tups S3)⟩, ⟨e3, ⟨[], [], e13, ⟨rfl, by simp⟩, fun _ => rfl⟩, ⟨[], [], e23, ⟨rfl, by simp⟩, fun x q z => (by cases z), fun _ _ => rfl⟩, nwr, ⟨fun x v z => (by cases z), fun x r ps v z => (by cases z)⟩⟩, n17, (ne0 eg).1, (ne0 eg).2.1, (ne0 ec).1, (ne0 ec).2.1, by simp, by simp⟩
  walk_at "vs"
  refine for_list (K := K) (xs := ws.map V.str) (fun i σ H' => (∃ t, σ = [some (.ref h), some (.ref wl), some (.ref st), t]) ∧ Same H H' ∧ ∃ kn rm, Ctx [] H' h hg hc st wd rd n gv rc kn rm ∧ ∀ x ∈ ws.take i, kn x ≠ none) ?_ ?_ ?_ ?_
  · exact ⟨⟨none, rfl⟩, S3, kn0, _, cx3, by simp⟩
  · intro i σ H' _ hP
    exact SqL.of (hP.2.1 _ _ ewl)
  · intro i xv σ H4 hxv hP
    obtain ⟨⟨t, rfl⟩, S4, kn, rm, cx, hk⟩ := hP
    have hi : i < (ws.map V.str).length := (List.getElem?_eq_some_iff.mp hxv).1
    rw [List.length_map] at hi
    have hxe : ws[i]? = some (ws[i]) := List.getElem?_eq_getElem hi
    obtain ⟨k, hkn, ek⟩ := mem_nmK.mp (hws _ (List.getElem_mem hi))
    have hxv' : xv = .str (nameK k) := by
      rw [List.getElem?_map, hxe] at hxv
      rw [← ek]; exact (Option.some.inj hxv).symm
    subst hxv'
    walk_at "vs"
    intro kn1 rm1 v H5 b5 cx5 nw5 hv
    refine ⟨⟨_, rfl⟩, fun y o e => b5 _ _ (by simp only [List.mem_cons, List.not_mem_nil, or_false, not_or]; exact ⟨(ne0 e).1, (ne0 e).2.1⟩) (S4 _ _ e), kn1, rm1, cx5, fun x hx => ?_⟩
    rw [List.take_add_one, hxe] at hx
    rcases List.mem_append.mp hx with z | z
    · have := hk x z
      cases e : kn x with
      | none => exact absurd e this
      | some u => rw [nw5.1 _ _ e]; simp
    · have : x = ws[i] := by simpa using z
      rw [this, ek, hv]; simp
  · intro σ H4 hP
    obtain ⟨⟨t, rfl⟩, S4, kn, rm, cx, hk⟩ := hP
    rw [List.length_map, List.take_length] at hk
    walk_at "vs"
    exact q st wd rd kn rm H4 S4 hst0 hwd hrd0 cx.sa hk
end

section
variable {P : Program} {w : World} {K : PySem.W.Frag} {mg : Str → Option Value} {base : Heap}
noncomputable abbrev s_law_wishes : Stmt := top 19
theorem sc_law_wishes : FnScope ["house", "pool", "names"] ["house", "pool"] (defScope s_law_wishes) := ⟨rfl, rfl, rfl, by decide +kernel, rfl, by decide +kernel, by decide +kernel⟩
theorem lo_law_wishes_names : Loc (defScope s_law_wishes) "names" := by decide +kernel
theorem gl_law_wishes_sorted : (defScope s_law_wishes).names.lookup ("sorted" : Str) = some NameKind.globalImplicit := by decide +kernel
theorem gl_law_wishes_list : (defScope s_law_wishes).names.lookup ("list" : Str) = some NameKind.globalImplicit := by decide +kernel
theorem vo_law_wishes_house : VarOk (defScope s_law_wishes) "house" := by decide +kernel
theorem nn_law_wishes_list : ("list" : Str) ≠ "__name__" := by decide +kernel
theorem db_law_wishes_list : (("list" : Str) == ("__debug__" : Str)) = false := by decide +kernel
theorem nn_law_wishes_sorted : ("sorted" : Str) ≠ "__name__" := by decide +kernel
theorem db_law_wishes_sorted : (("sorted" : Str) == ("__debug__" : Str)) = false := by decide +kernel
theorem gl_law_wishes_range : (defScope s_law_wishes).names.lookup ("range" : Str) = some NameKind.globalImplicit := by decide +kernel
theorem gl_law_wishes__law_take : (defScope s_law_wishes).names.lookup ("_law_take" : Str) = some NameKind.globalImplicit := by decide +kernel
theorem vo_law_wishes_pool : VarOk (defScope s_law_wishes) "pool" := by decide +kernel
theorem db_law_wishes__law_take : (("_law_take" : Str) == ("__debug__" : Str)) = false := by decide +kernel
theorem nn_law_wishes_len : ("len" : Str) ≠ "__name__" := by decide +kernel
theorem db_law_wishes_len : (("len" : Str) == ("__debug__" : Str)) = false := by decide +kernel
theorem nn_sorted : ("sorted" : Str) ≠ "__name__" := by decide +kernel
theorem ok_law_wishes {f g1 : Addr} {fd gd1 : FuncData} (T_law_wishes : FnT K mg "_law_wishes" s_law_wishes ["house", "pool"] f fd) (T_law_take : FnT K mg "_law_take" s_law_take ["pool", "many"] g1 gd1) (G_law_take : FnOk P w K mg base CX0 1 g1 gd1 ["pool", "many"] spTake) (T : Blt mg) :
    FnOk P w K mg base CX0 2 f fd ["house", "pool"] sp3Ws := by
  refine T_law_wishes.F.okQ sc_law_wishes (fun vs H Q E h => ?_) (fun cdv A outer s H vs Q E hr h => ?_)
  · obtain ⟨h, g, c, p, n, cc, gv, rc, rfl, _⟩ := h
    rfl
  obtain ⟨h, hg, hc, p, n, cc, gv, rc, rfl, ho, n1, n17, pl, hcc, npg, npc, q⟩ := h
  refine ⟨_, (qss_cons (qs_set (i := 2) sc_law_wishes.nd rfl lo_law_wishes_names (qe_callB qc_sortedT gl_law_wishes_sorted T.b_sorted bt_sorted (qa_B (qe_op qop_cat (qe_callTy (qc_listD rfl) gl_law_wishes_list T.b_list bt_list (qa_S (qe_ix qix_tup (qe_var 0 vo_law_wishes_house) qe_int) qa_nil) nn_law_wishes_list db_law_wishes_list) (qe_callTy (qc_listD rfl) gl_law_wishes_list T.b_list bt_list (qa_S (qe_ix qix_tup (qe_var 0 vo_law_wishes_house) qe_int) qa_nil) nn_law_wishes_list db_law_wishes_list)) qa_nil) nn_law_wishes_sorted db_law_wishes_sorted))
    (qss_one (qs_ret (qe_comp rfl (n := 1) (fr := [2, 1]) (N := ["k", "names", "pool"]) (cs_mk (scX := defScope s_law_wishes) (NX := ["house", "pool", "names"]) rfl rfl (by decide +kernel)) (qi_range1 gl_law_wishes_range T.b_range (qa_B (qe_op qop_add qe_int (qe_call (G_law_take.mono (by omega)) hr gl_law_wishes__law_take T_law_take.m T_law_take.F.kp T_law_take.b .nil pass0 (qa_N (qe_var 1 vo_law_wishes_pool) (qa_C qe_int qa_nil)) db_law_wishes__law_take)) qa_nil)) (fun _ _ _ _ _ => (qgx (i := 0) (show List.Nodup (α := Str) ["k", "names", "pool"] by decide) (locC (by decide +kernel)))) (fun _ _ _ _ _ => qi_nil) (fun _ _ _ _ _ => (qe_ix (qix_listK (K := K) rfl) (qe_var 1 (VarC.ok (by decide +kernel))) (qe_call (G_law_take.mono (by omega)) hr (glC (by decide +kernel)) T_law_take.m T_law_take.F.kp T_law_take.b .nil pass0 (qa_N (qe_var 2 (VarC.ok (by decide +kernel))) (qa_F (qe_callB (qc_len_seqK (K := K) rfl) (glC (by decide +kernel)) T.b_len bt_len (qa_N (qe_var 1 (VarC.ok (by decide +kernel))) qa_nil) nn_law_wishes_len db_law_wishes_len) qa_nil)) db_law_wishes__law_take))))))), ?_⟩
  obtain ⟨kg, kc, eh, eg, ec, bd⟩ := id ho
  obtain ⟨gs, cs, kgk, kck, hlen⟩ := bd.k
  walk_at "vs"
  intro l1 hl1
  rw [keys_list kgk.k]
  have s1 := same_new (.lst (gs.map V.str)) hl1
  have e1 : upd H l1 (.lst (gs.map V.str)) l1 = some (.lst (gs.map V.str)) := upd_same
  have eh1 := s1 _ _ eh
  have ec1 := s1 _ _ ec
  have pl1 := pl.same s1
  have hn1 : l1 ≠ p := pl.ne hl1
  generalize upd H l1 (.lst (gs.map V.str)) = H1 at *
  walk_at "vs"
  intro l2 hl2
  rw [keys_list kck.k]
  have s2 := same_new (.lst (cs.map V.str)) hl2
  have e12 := s2 _ _ e1
  have e2 : upd H1 l2 (.lst (cs.map V.str)) l2 = some (.lst (cs.map V.str)) := upd_same
  have S2 := s1.trans s2
  have pl2 := pl1.same s2
  generalize upd H1 l2 (.lst (cs.map V.str)) = H2 at *
  have hz : (gs.map V.str).length + (cs.map V.str).length ≤ sizeLine := by rw [List.length_map, List.length_map]; exact Nat.le_of_lt (small1000 (by omega))
  walk_at "vs"
  intro l3 hl3
  rw [← List.map_append]
  have s3 := same_new (.lst ((gs ++ cs).map V.str)) hl3
  have e3 : upd H2 l3 (.lst ((gs ++ cs).map V.str)) l3 = some (.lst ((gs ++ cs).map V.str)) := upd_same
  have S3 := S2.trans s3
  have pl3 := pl2.same s3
  generalize upd H2 l3 (.lst ((gs ++ cs).map V.str)) = H3 at *
  refine ⟨l3, gs ++ cs, rfl, SqL.of e3, by rw [List.length_append]; omega, fun l4 us hl4 hperm => ?_⟩
  have s4 := same_new (.lst (us.map V.str)) hl4
  have e4 : upd H3 l4 (.lst (us.map V.str)) l4 = some (.lst (us.map V.str)) := upd_same
  have S4 := S3.trans s4
  have pl4 := pl3.same s4
  have n4p : l4 ∉ [p] := fun z => pl3.ne hl4 (by simpa using z)
  generalize upd H3 l4 (.lst (us.map V.str)) = H4 at *
  have hul : us.length = n := by rw [hperm.length_eq, List.length_append]; exact hlen
  have hus : ∀ x ∈ us, x ∈ nmK n := fun x hx => by
    rcases List.mem_append.mp (hperm.mem_iff.mp hx) with z | z
    · refine bd.ok.gk x fun e => ?_
      exact kgk.none.mp (by rw [bd.g, e]; rfl) z
    · cases e : rc x with
      | none => exact absurd z (kck.none.mp (bd.rn x e))
      | some r =>
        obtain ⟨k, hk, ek, _⟩ := bd.ok.rk x r e
        exact mem_nmK.mpr ⟨k, hk, ek⟩
  walk_at "vs"
  intro n5 H5 n50 n51 b5 pl5
  have B5 : But [p] H H5 := (But.of_same S4).trans b5
  have hlm : (us.map V.str).length = us.length := List.length_map _
  have hl0 : 0 < ((us.map V.str).length : Int) := by rw [hlm]; omega
  have hlog : ((us.map V.str).length : Int).natAbs.log2 < 9000 := by
    rw [hlm]
    exact Nat.lt_of_le_of_lt (Nat.log2_le_self _) (by omega)
  have e5 := b5 _ _ n4p e4
  walk_at "vs"
  intro D hD
  have nD : D ∉ [p] := fun z => pl5.ne hD (by simpa using z)
  have nDp : D ≠ p := by simpa using nD
  have nD4 : l4 ≠ D := fun z => by rw [z, hD] at e5; cases e5
  have hD0 := but_none B5 hD nD
  refine comp_range (fun i σ' H' => (∃ t, σ' = t :: [some (.ref l4), some (.ref p)]) ∧ ∃ ts : List Str, H' D = some (.lst (ts.map V.str)) ∧ ts.length = i ∧ (∀ x ∈ ts, x ∈ nmK n) ∧ But [p] H H' ∧ PoolAt H' p (cc + 1 + i) ∧ H' l4 = some (.lst (us.map V.str))) ?_ ?_ ?_
  · exact ⟨⟨none, rfl⟩, [], upd_same, rfl, by simp, B5.upd _ hD0, pl5.same (same_new _ hD), (same_new _ hD) _ _ e5⟩
  · intro i σ' H' hi hP
    obtain ⟨⟨t, rfl⟩, ts, e, et, hts, hb, hpl, el4⟩ := hP
    have hi9 : (i : Int) < 10 := by omega
    walk_at "vs"
    intro n6 H6 n60 n61 b6 pl6
    have hb6 := hb.trans b6
    have e6 := b6 _ _ nD e
    have el6 := b6 _ _ n4p el4
    obtain ⟨x, hx, hxm⟩ : ∃ x, atI (us.map V.str) n6 = some (.str x) ∧ x ∈ us := by
      obtain ⟨j, rfl⟩ := Int.eq_ofNat_of_zero_le n60
      have hj : j < us.length := by rw [hlm] at n61; omega
      exact ⟨us[j], atI_nat (by rw [List.getElem?_map, List.getElem?_eq_getElem hj]; rfl), List.getElem_mem hj⟩
    have hz : (ts.map V.str).length < sizeLine := by rw [List.length_map]; exact small1000 (by omega)
    walk_at "vs"
    refine ⟨⟨_, rfl⟩, ts ++ [x], ?_, by rw [List.length_append, et]; rfl, ?_, hb6.upd _ hD0, pl6.keep (But.set _ (by simp)) (S := [D]) (by simpa using Ne.symm nDp), (upd_ne nD4).trans el6⟩
    · rw [List.map_append]; exact upd_same
    · intro y hy
      rcases List.mem_append.mp hy with z | z
      · exact hts y z
      · have : y = x := by simpa using z
        rw [this]; exact hus x hxm
  · intro σ' H' hP
    obtain ⟨_, ts, e, et, hts, hb, hpl, el4⟩ := hP
    walk_at "vs"
    exact q D ts H' hb hD0 e hts
end

section
variable {P : Program} {w : World} {K : PySem.W.Frag} {mg : Str → Option Value} {base : Heap}
noncomputable abbrev s_law_case : Stmt := top 20
theorem sc_law_case : FnScope ["script", "pool", "many", "house", "old", "older", "records", "others", "name"] ["script"] (defScope s_law_case) := ⟨rfl, rfl, rfl, by decide +kernel, rfl, by decide +kernel, by decide +kernel⟩
theorem lo_law_case_pool : Loc (defScope s_law_case) "pool" := by decide +kernel
theorem gl_law_case__law_pool : (defScope s_law_case).names.lookup ("_law_pool" : Str) = some NameKind.globalImplicit := by decide +kernel
theorem vo_law_case_script : VarOk (defScope s_law_case) "script" := by decide +kernel
theorem db_law_case__law_pool : (("_law_pool" : Str) == ("__debug__" : Str)) = false := by decide +kernel
theorem lo_law_case_many : Loc (defScope s_law_case) "many" := by decide +kernel
theorem gl_law_case__law_take : (defScope s_law_case).names.lookup ("_law_take" : Str) = some NameKind.globalImplicit := by decide +kernel
theorem vo_law_case_pool : VarOk (defScope s_law_case) "pool" := by decide +kernel
theorem db_law_case__law_take : (("_law_take" : Str) == ("__debug__" : Str)) = false := by decide +kernel
theorem lo_law_case_house : Loc (defScope s_law_case) "house" := by decide +kernel
theorem gl_law_case__law_house : (defScope s_law_case).names.lookup ("_law_house" : Str) = some NameKind.globalImplicit := by decide +kernel
theorem vo_law_case_many : VarOk (defScope s_law_case) "many" := by decide +kernel
theorem db_law_case__law_house : (("_law_house" : Str) == ("__debug__" : Str)) = false := by decide +kernel
theorem lo_law_case_old : Loc (defScope s_law_case) "old" := by decide +kernel
theorem gl_law_case__law_other : (defScope s_law_case).names.lookup ("_law_other" : Str) = some NameKind.globalImplicit := by decide +kernel
theorem vo_law_case_house : VarOk (defScope s_law_case) "house" := by decide +kernel
theorem db_law_case__law_other : (("_law_other" : Str) == ("__debug__" : Str)) = false := by decide +kernel
theorem lo_law_case_older : Loc (defScope s_law_case) "older" := by decide +kernel
theorem lo_law_case_records : Loc (defScope s_law_case) "records" := by decide +kernel
theorem gl_law_case_dict : (defScope s_law_case).names.lookup ("dict" : Str) = some NameKind.globalImplicit := by decide +kernel
theorem gl_law_case__law_fresh : (defScope s_law_case).names.lookup ("_law_fresh" : Str) = some NameKind.globalImplicit := by decide +kernel
theorem gl_law_case__law_wishes : (defScope s_law_case).names.lookup ("_law_wishes" : Str) = some NameKind.globalImplicit := by decide +kernel
theorem vo_law_case_old : VarOk (defScope s_law_case) "old" := by decide +kernel
theorem db_law_case__law_wishes : (("_law_wishes" : Str) == ("__debug__" : Str)) = false := by decide +kernel
theorem db_law_case__law_fresh : (("_law_fresh" : Str) == ("__debug__" : Str)) = false := by decide +kernel
theorem nn_law_case_dict : ("dict" : Str) ≠ "__name__" := by decide +kernel
theorem db_law_case_dict : (("dict" : Str) == ("__debug__" : Str)) = false := by decide +kernel
theorem lo_law_case_others : Loc (defScope s_law_case) "others" := by decide +kernel
theorem vo_law_case_older : VarOk (defScope s_law_case) "older" := by decide +kernel
theorem vo_law_case_others : VarOk (defScope s_law_case) "others" := by decide +kernel
theorem lo_law_case_name : Loc (defScope s_law_case) "name" := by decide +kernel
theorem vo_law_case_records : VarOk (defScope s_law_case) "records" := by decide +kernel
theorem vo_law_case_name : VarOk (defScope s_law_case) "name" := by decide +kernel
theorem ok_law_case {f g0 g1 g2 g3 g4 g5 : Addr} {fd gd0 gd1 gd2 gd3 gd4 gd5 : FuncData} (T_law_case : FnT K mg "_law_case" s_law_case ["script"] f fd) (T_law_take : FnT K mg "_law_take" s_law_take ["pool", "many"] g0 gd0) (G_law_take : FnOk P w K mg base CX0 1 g0 gd0 ["pool", "many"] spTake)
    (T_law_pool : FnT K mg "_law_pool" s_law_pool ["script", "k"] g1 gd1) (G_law_pool : FnOk P w K mg base CX0 2 g1 gd1 ["script", "k"] (spPool K)) (T_law_house : FnT K mg "_law_house" s_law_house ["script", "start", "many"] g2 gd2) (G_law_house : FnOk P w K mg base CX0 7 g2 gd2 ["script", "start", "many"] (sp3Hs K))
    (T_law_other : FnT K mg "_law_other" s_law_other ["house", "script", "start", "most"] g3 gd3) (G_law_other : FnOk P w K mg base CX0 7 g3 gd3 ["house", "script", "start", "most"] (sp3Ot K)) (T_law_fresh : FnT K mg "_law_fresh" s_law_fresh ["house", "wishes"] g4 gd4) (G_law_fresh : FnOk P w K mg base CX0 138 g4 gd4 ["house", "wishes"] sp3Fr)
    (T_law_wishes : FnT K mg "_law_wishes" s_law_wishes ["house", "pool"] g5 gd5) (G_law_wishes : FnOk P w K mg base CX0 2 g5 gd5 ["house", "pool"] sp3Ws) (T : Blt mg) : FnOk P w K mg base CX0 139 f fd ["script"] (sp3Ca K) := by
  refine T_law_case.F.okQ sc_law_case (fun vs H Q E h => ?_) (fun cdv A outer s H vs Q E hr h => ?_)
  · obtain ⟨a, zs, rfl, _⟩ := h
    rfl
  obtain ⟨a, zs, rfl, hS, q⟩ := h
  refine ⟨_, (qss_cons (qs_set (i := 1) sc_law_case.nd rfl lo_law_case_pool (qe_call (G_law_pool.mono (by omega)) hr gl_law_case__law_pool T_law_pool.m T_law_pool.F.kp T_law_pool.b .nil pass0 (qa_N (qe_var 0 vo_law_case_script) (qa_C qe_int qa_nil)) db_law_case__law_pool))
    (qss_cons (qs_set (i := 2) sc_law_case.nd rfl lo_law_case_many (qe_op qop_add qe_int (qe_call (G_law_take.mono (by omega)) hr gl_law_case__law_take T_law_take.m T_law_take.F.kp T_law_take.b .nil pass0 (qa_N (qe_var 1 vo_law_case_pool) (qa_C qe_int qa_nil)) db_law_case__law_take)))
    (qss_cons (qs_set (i := 3) sc_law_case.nd rfl lo_law_case_house (qe_call (G_law_house.mono (by omega)) hr gl_law_case__law_house T_law_house.m T_law_house.F.kp T_law_house.b .nil pass0 (qa_N (qe_var 0 vo_law_case_script) (qa_C qe_int (qa_N (qe_var 2 vo_law_case_many) qa_nil))) db_law_case__law_house))
    (qss_cons (qs_set (i := 4) sc_law_case.nd rfl lo_law_case_old (qe_call (G_law_other.mono (by omega)) hr gl_law_case__law_other T_law_other.m T_law_other.F.kp T_law_other.b .nil pass0 (qa_N (qe_var 3 vo_law_case_house) (qa_N (qe_var 0 vo_law_case_script) (qa_C qe_int (qa_S (qe_ix qix_list (qe_lst (qa_C qe_int (qa_C qe_int (qa_C qe_int (qa_C qe_int qa_nil))))) (qe_call (G_law_take.mono (by omega)) hr gl_law_case__law_take T_law_take.m T_law_take.F.kp T_law_take.b .nil pass0 (qa_N (qe_var 1 vo_law_case_pool) (qa_C qe_int qa_nil)) db_law_case__law_take)) qa_nil)))) db_law_case__law_other))
    (qss_cons (qs_set (i := 5) sc_law_case.nd rfl lo_law_case_older (qe_call (G_law_other.mono (by omega)) hr gl_law_case__law_other T_law_other.m T_law_other.F.kp T_law_other.b .nil pass0 (qa_N (qe_var 3 vo_law_case_house) (qa_N (qe_var 0 vo_law_case_script) (qa_C qe_int (qa_S (qe_ix qix_list (qe_lst (qa_C qe_int (qa_C qe_int qa_nil))) (qe_call (G_law_take.mono (by omega)) hr gl_law_case__law_take T_law_take.m T_law_take.F.kp T_law_take.b .nil pass0 (qa_N (qe_var 1 vo_law_case_pool) (qa_C qe_int qa_nil)) db_law_case__law_take)) qa_nil)))) db_law_case__law_other))
    (qss_cons (qs_set (i := 6) sc_law_case.nd rfl lo_law_case_records (qe_callTy qc_dictD gl_law_case_dict T.b_dict bt_dict (qa_S (qe_ix qix_list (qe_call (G_law_fresh.mono (by omega)) hr gl_law_case__law_fresh T_law_fresh.m T_law_fresh.F.kp T_law_fresh.b .nil pass0 (qa_N (qe_var 4 vo_law_case_old) (qa_F (qe_call (G_law_wishes.mono (by omega)) hr gl_law_case__law_wishes T_law_wishes.m T_law_wishes.F.kp T_law_wishes.b .nil pass0 (qa_N (qe_var 4 vo_law_case_old) (qa_F (qe_call (G_law_pool.mono (by omega)) hr gl_law_case__law_pool T_law_pool.m T_law_pool.F.kp T_law_pool.b .nil pass0 (qa_N (qe_var 0 vo_law_case_script) (qa_C qe_int qa_nil)) db_law_case__law_pool) qa_nil)) db_law_case__law_wishes) qa_nil)) db_law_case__law_fresh) qe_int) qa_nil) nn_law_case_dict db_law_case_dict))
    (qss_cons (qs_set (i := 7) sc_law_case.nd rfl lo_law_case_others (qe_ix qix_list (qe_call (G_law_fresh.mono (by omega)) hr gl_law_case__law_fresh T_law_fresh.m T_law_fresh.F.kp T_law_fresh.b .nil pass0 (qa_N (qe_var 5 vo_law_case_older) (qa_F (qe_call (G_law_wishes.mono (by omega)) hr gl_law_case__law_wishes T_law_wishes.m T_law_wishes.F.kp T_law_wishes.b .nil pass0 (qa_N (qe_var 5 vo_law_case_older) (qa_F (qe_call (G_law_pool.mono (by omega)) hr gl_law_case__law_pool T_law_pool.m T_law_pool.F.kp T_law_pool.b .nil pass0 (qa_N (qe_var 0 vo_law_case_script) (qa_C qe_int qa_nil)) db_law_case__law_pool) qa_nil)) db_law_case__law_wishes) qa_nil)) db_law_case__law_fresh) qe_int))
    (qss_cons (qs_for PassesOwn.never rfl (qi_dict (qe_var 7 vo_law_case_others)) (qg_name (i := 8) sc_law_case.nd rfl lo_law_case_name) (qss_one (qs_if (qt_cmp qop_eq (qe_call (G_law_take.mono (by omega)) hr gl_law_case__law_take T_law_take.m T_law_take.F.kp T_law_take.b .nil pass0 (qa_N (qe_var 1 vo_law_case_pool) (qa_C qe_int qa_nil)) db_law_case__law_take) qe_int (nomarkQ _)) (qss_one (qs_dput (hu_of hr) (qe_var 6 vo_law_case_records) (qe_var 8 vo_law_case_name) (qe_dget (hu_of hr) (qe_var 7 vo_law_case_others) (qe_var 8 vo_law_case_name)))) qss_nil)))
    (qss_one (qs_ret (qe_lst (qa_N (qe_var 3 vo_law_case_house) (qa_N (qe_var 6 vo_law_case_records) (qa_F (qe_call (G_law_wishes.mono (by omega)) hr gl_law_case__law_wishes T_law_wishes.m T_law_wishes.F.kp T_law_wishes.b .nil pass0 (qa_N (qe_var 3 vo_law_case_house) (qa_F (qe_call (G_law_pool.mono (by omega)) hr gl_law_case__law_pool T_law_pool.m T_law_pool.F.kp T_law_pool.b .nil pass0 (qa_N (qe_var 0 vo_law_case_script) (qa_C qe_int qa_nil)) db_law_case__law_pool) qa_nil)) db_law_case__law_wishes) qa_nil)))))))))))))), ?_⟩
  walk_at "vs"
  intro p H1 s1 hp0 pl1
  have fr : ∀ y ∈ [p], H y = none := fun y hy => by
    have : y = p := by simpa using hy
    rw [this]; exact hp0
  walk_at "vs"
  intro n2 H2 n20 n21 b2 pl2
  have S2 := but_same s1 fr b2
  have hS2 := SqL.same S2 hS
  obtain ⟨m, rfl⟩ := Int.eq_ofNat_of_zero_le n20
  have em : (2 + (m : Int)) = ((2 + m : Nat) : Int) := by omega
  iterate 2 walk_at "v"
  dsimp only
  rw [em]
  have hm : m < 15 := by omega
  generalize hn : 2 + m = n at *
  have n17 : n ≤ 17 := by omega
  have n1 : 1 ≤ n := by omega
  walk_at "vs"
  intro h hg hc gv rc H3 s3 hh3 hg3 hc3 ho3
  have pl3 := pl2.same s3
  have S3 := S2.trans s3
  have npg : p ≠ hg := fun z => by
    obtain ⟨_, _, _, e, _⟩ := pl2
    rw [z, hg3] at e; cases e
  have npc : p ≠ hc := fun z => by
    obtain ⟨_, _, _, e, _⟩ := pl2
    rw [z, hc3] at e; cases e
  have keepH : ∀ {h hg hc : Addr} {gv rc} {H4 H5 : Hp} {cc}, PoolAt H4 p cc → But [p] H4 H5 → p ≠ hg → p ≠ hc → HouseG H4 h hg hc n gv rc → HouseG H5 h hg hc n gv rc := fun pl b h1 h2 ho => ho.but b (pl.tups b) (by simpa using Ne.symm h1) (by simpa using Ne.symm h2)
  walk_at "vs"
  intro pz hpz
  have s4 := same_new (.lst [V.int 3, V.int 6, V.int 20, V.int 60]) hpz
  have e4 : upd H3 pz (.lst [V.int 3, V.int 6, V.int 20, V.int 60]) pz = some (.lst [V.int 3, V.int 6, V.int 20, V.int 60]) := upd_same
  have pl4 := pl3.same s4
  have S4 := S3.trans s4
  have ho4 := ho3.same s4
  have npz : pz ∉ [p] := fun z => pl3.ne hpz (by simpa using z)
  generalize upd H3 pz (.lst [V.int 3, V.int 6, V.int 20, V.int 60]) = H4 at *
  walk_at "vs"
  intro n5 H5 n50 n51 b5 pl5
  have S5 := but_same S4 fr b5
  have e5 := b5 _ _ npz e4
  have ho5 := keepH pl4 b5 npg npc ho4
  have hS5 := SqL.same S5 hS
  obtain ⟨mo, hmo, hmo0, hmo1⟩ : ∃ mo : Int, atI [V.int 3, V.int 6, V.int 20, V.int 60] n5 = some (.int mo) ∧ 0 < mo ∧ mo ≤ 100 := by
    have : n5 = 0 ∨ n5 = 1 ∨ n5 = 2 ∨ n5 = 3 := by omega
    rcases this with rfl | rfl | rfl | rfl
    · exact ⟨3, rfl, by omega, by omega⟩
    · exact ⟨6, rfl, by omega, by omega⟩
    · exact ⟨20, rfl, by omega, by omega⟩
    · exact ⟨60, rfl, by omega, by omega⟩
  walk_at "vs"
  intro oh og oc ogv orc H6 s6 ohn ogn ocn oho
  have pl6 := pl5.same s6
  have S6 := S5.trans s6
  have ho6 := ho5.same s6
  have npog : p ≠ og := fun z => by
    obtain ⟨_, _, _, e, _⟩ := pl5
    rw [z, ogn] at e; cases e
  have npoc : p ≠ oc := fun z => by
    obtain ⟨_, _, _, e, _⟩ := pl5
    rw [z, ocn] at e; cases e
  clear e5 e4 hmo hmo0 hmo1 npz
  walk_at "vs"
  intro pz hpz
  have s7 := same_new (.lst [V.int 4, V.int 12]) hpz
  have e7 : upd H6 pz (.lst [V.int 4, V.int 12]) pz = some (.lst [V.int 4, V.int 12]) := upd_same
  have pl7 := pl6.same s7
  have S7 := S6.trans s7
  have ho7 := ho6.same s7
  have oho7 := oho.same s7
  have npz : pz ∉ [p] := fun z => pl6.ne hpz (by simpa using z)
  generalize upd H6 pz (.lst [V.int 4, V.int 12]) = H7 at *
  walk_at "vs"
  intro n8 H8 n80 n81 b8 pl8
  have S8 := but_same S7 fr b8
  have e8 := b8 _ _ npz e7
  have ho8 := keepH pl7 b8 npg npc ho7
  have oho8 := keepH pl7 b8 npog npoc oho7
  have hS8 := SqL.same S8 hS
  obtain ⟨mo, hmo, hmo0, hmo1⟩ : ∃ mo : Int, atI [V.int 4, V.int 12] n8 = some (.int mo) ∧ 0 < mo ∧ mo ≤ 100 := by
    have : n8 = 0 ∨ n8 = 1 := by omega
    rcases this with rfl | rfl
    · exact ⟨4, rfl, by omega, by omega⟩
    · exact ⟨12, rfl, by omega, by omega⟩
  walk_at "vs"
  intro vh vg vc vgv vrc H9 s9 vhn vgn vcn vho
  have pl9 := pl8.same s9
  have S9 := S8.trans s9
  have ho9 := ho8.same s9
  have oho9 := oho8.same s9
  have npvg : p ≠ vg := fun z => by
    obtain ⟨_, _, _, e, _⟩ := pl8
    rw [z, vgn] at e; cases e
  have npvc : p ≠ vc := fun z => by
    obtain ⟨_, _, _, e, _⟩ := pl8
    rw [z, vcn] at e; cases e
  have hS9 := SqL.same S9 hS
  clear e8 e7 hmo hmo0 hmo1 npz
  walk_at "vs"
  intro p2 H10 s10 hp2 pl10
  have fr2 : ∀ y ∈ [p2], H9 y = none := fun y hy => by
    have : y = p2 := by simpa using hy
    rw [this]; exact hp2
  obtain ⟨okg, okc, oeh, oeg, oec, obd⟩ := id oho9
  have np2g : p2 ≠ og := fun z => by rw [z, oeg] at hp2; cases hp2
  have np2c : p2 ≠ oc := fun z => by rw [z, oec] at hp2; cases hp2
  have oho10 := oho9.same s10
  walk_at "vs"
  intro wl ws H11 b11 hwl ewl hws
  have s11 := but_same s10 fr2 b11
  have oho11 := oho9.same s11
  walk_at "vs"
  intro st wd rd kn rm H12 s12 hst hwd hrd sa hk
  have S12 := s11.trans s12
  have est := sa.e
  obtain ⟨kr, erd, rD⟩ := sa.recD obd.ok
  have rrd : Rd H12 rd (.dK kr) := .inl erd
  have hat : atI [V.ref wd, V.ref rd] 1 = some (.ref rd) := rfl
  walk_at "vs"
  intro rcd hrcd
  have s13 := same_new (.dK kr) hrcd
  have ercd : upd H12 rcd (.dK kr) rcd = some (.dK kr) := upd_same
  have rD13 := rD.map (H' := upd H12 rcd (.dK kr)) fun b q z => z.same s13
  have S13 : Same H9 (upd H12 rcd (.dK kr)) := S12.trans s13
  have hrcd9 := same_none S12 hrcd
  generalize upd H12 rcd (.dK kr) = H13 at *
  have T13 := S9.trans S13
  have pl13 := pl9.same S13
  have ho13 := ho9.same S13
  have vho13 := vho.same S13
  have hS13 := SqL.same T13 hS
  clear rrd hat est sa hk erd rD s13 s12 b11 s10 pl10 ewl hws oho10 oho11
  walk_at "vs"
  intro p3 H14 s14 hp3 pl14
  have fr3 : ∀ y ∈ [p3], H13 y = none := fun y hy => by
    have : y = p3 := by simpa using hy
    rw [this]; exact hp3
  obtain ⟨vkg, vkc, veh, veg, vec, vbd⟩ := id vho13
  have np3g : p3 ≠ vg := fun z => by rw [z, veg] at hp3; cases hp3
  have np3c : p3 ≠ vc := fun z => by rw [z, vec] at hp3; cases hp3
  have vho14 := vho13.same s14
  walk_at "vs"
  intro wl2 ws2 H15 b15 hwl2 ewl2 hws2
  have s15 := but_same s14 fr3 b15
  have vho15 := vho13.same s15
  walk_at "vs"
  intro st2 wd2 rd2 kn2 rm2 H16 s16 hst2 hwd2 hrd2 sa2 hk2
  have S16 := s15.trans s16
  have est2 := sa2.e
  obtain ⟨kr2, erd2, rD2⟩ := sa2.recD vbd.ok
  have hat2 : atI [V.ref wd2, V.ref rd2] 1 = some (.ref rd2) := rfl
  have ercd16 := S16 _ _ ercd
  have rD16 := rD13.map fun b q z => z.same S16
  have T16 := T13.trans S16
  have pl16 := pl13.same S16
  have ho16 := ho13.same S16
  have hrd0 : H rd2 = none := same_none (T13.trans s15) hrd2
  have hrcd0 : H rcd = none := same_none S9 hrcd9
  have nrr : rd2 ≠ rcd := fun z => by
    have := same_none s15 hrd2
    rw [z, ercd] at this; cases this
  have nrp : rd2 ≠ p := fun z => by
    obtain ⟨_, _, _, e, _⟩ := pl13
    have := same_none s15 hrd2
    rw [z, e] at this; cases this
  have ncp : rcd ≠ p := fun z => by
    obtain ⟨_, _, _, e, _⟩ := pl9
    rw [z, e] at hrcd9; cases hrcd9
  have hS16 := SqL.same T16 hS
  walk_at "vs"
  intro o
  have hrd13 := same_none s15 hrd2
  obtain ⟨kg, kc, eh13, eg13, ec13, bd13⟩ := id ho13
  have ngr : hg ≠ rd2 := fun z => by rw [z, hrd13] at eg13; cases eg13
  have ncr : hc ≠ rd2 := fun z => by rw [z, hrd13] at ec13; cases ec13
  have ngrc : hg ≠ rcd := fun z => by
    obtain ⟨_, _, _, eg9, _, _⟩ := ho9
    rw [z, hrcd9] at eg9; cases eg9
  have ncrc : hc ≠ rcd := fun z => by
    obtain ⟨_, _, _, _, ec9, _⟩ := ho9
    rw [z, hrcd9] at ec9; cases ec9
  have t17 := tups_dk (o := .frz o (.dK kr2)) erd2
  have b17 : But [rd2] H16 (upd H16 rd2 (.frz o (.dK kr2))) := But.set _ (by simp)
  have T17 := same_updN (.frz o (.dK kr2)) hrd0 T16
  have pl17 := pl16.keep b17 (by simpa using Ne.symm nrp)
  have ho17 := ho16.but b17 t17 (by simpa using ngr) (by simpa using ncr)
  have ercd17 : upd H16 rd2 (.frz o (.dK kr2)) rcd = some (.dK kr) := (upd_ne (Ne.symm nrr)).trans ercd16
  have rD17 := rD16.map (H' := upd H16 rd2 (.frz o (.dK kr2))) fun b q z => z.dk erd2
  have rD217 := rD2.map (H' := upd H16 rd2 (.frz o (.dK kr2))) fun b q z => z.dk erd2
  have efr : upd H16 rd2 (.frz o (.dK kr2)) rd2 = some (.frz o (.dK kr2)) := upd_same
  generalize upd H16 rd2 (.frz o (.dK kr2)) = H17 at *
  have hkl2 := rD217.len
  refine for_dict (fun i σ H' => (∃ t, σ = [some (.ref a), some (.ref p), some (.int (n : Int)), some (.ref h), some (.ref oh), some (.ref vh), some (.ref rcd), some (.ref rd2), t]) ∧ Same H H' ∧ H' rd2 = some (.frz o (.dK kr2)) ∧ PoolAt H' p (503 + 1 + 1 + 1 + i) ∧ HouseG H' h hg hc n gv rc ∧ (∃ kr rm, H' rcd = some (.dK kr) ∧ RecD H' kr n rm) ∧ RecD H' kr2 n rm2) ?_ ?_ ?_ ?_
  · exact ⟨⟨none, rfl⟩, T17, efr, pl17, ho17, ⟨kr, rm, ercd17, rD17⟩, rD217⟩
  · intro i σ H' _ hP
    exact hP.2.2.1
  · intro i k v σ H18 hkv hP
    obtain ⟨⟨t, rfl⟩, T18, e18, pl18, ho18, ⟨kr3, rm3, er18, rD18⟩, rD218⟩ := hP
    have hi : i < kr2.length := (List.getElem?_eq_some_iff.mp hkv).1
    obtain ⟨rs2, kk2, hrs2⟩ := rD218.k
    obtain ⟨x, rfl, hxi⟩ := kk2.at hkv
    have hx := List.mem_of_getElem? hxi
    have hxn := hrs2 x hx
    cases erm : rm2 x with
    | none => exact absurd hx (kk2.none.mp (rD218.w x erm))
    | some qq =>
      obtain ⟨b, hb, ra⟩ := rD218.v x qq erm
      have hl3 := rD18.len
      have dgo : DGet H18 rd2 (.str x) (some (.ref b)) := by
        rw [← hb]; exact .inl ⟨kr2, .inr x, .inr ⟨o, e18⟩, rfl, rfl⟩
      walk_at "vs"
      intro n19 H19 n190 n191 b19 pl19
      have T19 := but_same T18 fr b19
      have t19 := pl18.tups b19
      have e19 := b19 _ _ (by simpa using nrp) e18
      have er19 := b19 _ _ (by simpa using ncp) er18
      have ho19 := keepH pl18 b19 npg npc ho18
      have up19 : ∀ b q, RecA [] H18 b q → RecA [] H19 b q := fun b q z => z.but b19 t19 (fun y hy => .inr fun xs w => by
        obtain ⟨_, _, _, e, _⟩ := pl18
        have : y = p := by simpa using hy
        rw [this, e] at w; cases w)
      have rD19 := rD18.map up19
      have rD219 := rD218.map up19
      have ra19 := up19 _ _ ra
      have dgo19 : DGet H19 rd2 (.str x) (some (.ref b)) := by
        rw [← hb]; exact .inl ⟨kr2, .inr x, .inr ⟨o, e19⟩, rfl, rfl⟩
      walk_at "vs"
      refine ite2 (fun c1 => ?_) (fun c1 => ?_)
      · have dp : DPut H19 rcd (.str x) (.ref b) (upd H19 rcd (.dK (putK kr3 (.inr x) (.ref b)))) := DPut.k (k := .inr x) er19 (small1000 (by omega))
        walk_at "vs"
        have t20 := tups_dk (o := .dK (putK kr3 (.inr x) (.ref b))) er19
        have b20 : But [rcd] H19 (upd H19 rcd (.dK (putK kr3 (.inr x) (.ref b)))) := But.set _ (by simp)
        have up20 : ∀ b' q, RecA [] H19 b' q → RecA [] (upd H19 rcd (.dK (putK kr3 (.inr x) (.ref b)))) b' q := fun b' q z => z.dk er19
        obtain ⟨r, ps, v⟩ := qq
        exact ⟨⟨_, rfl⟩, same_updN _ hrcd0 T19, (upd_ne nrr).trans e19, (pl19.keep b20 (by simpa using Ne.symm ncp)), ho19.but b20 t20 (by simpa using ngrc) (by simpa using ncrc), ⟨_, _, upd_same, (rD19.map up20).put hxn (up20 _ _ ra19) (rD219.ok x r ps v erm)⟩, rD219.map up20⟩
      · walk_at "vs"
        exact ⟨⟨_, rfl⟩, T19, e19, pl19, ho19, ⟨kr3, rm3, er19, rD19⟩, rD219⟩
  · intro σ H18 hP
    obtain ⟨⟨t, rfl⟩, T18, e18, pl18, ho18, ⟨kr3, rm3, er18, rD18⟩, rD218⟩ := hP
    have hS18 := SqL.same T18 hS
    walk_at "vs"
    intro p4 H19 s19 hp4 pl19
    have fr4 : ∀ y ∈ [p4], H18 y = none := fun y hy => by
      have : y = p4 := by simpa using hy
      rw [this]; exact hp4
    obtain ⟨kg8, kc8, eh8, eg8, ec8, bd8⟩ := id ho18
    have np4g : p4 ≠ hg := fun z => by rw [z, eg8] at hp4; cases hp4
    have np4c : p4 ≠ hc := fun z => by rw [z, ec8] at hp4; cases hp4
    have ho19 := ho18.same s19
    walk_at "vs"
    intro wl4 ws4 H20 b20 hwl4 ewl4 hws4
    have s20 := but_same s19 fr4 b20
    walk_at "vs"
    intro tt htt
    have s21 := same_new (.lst [.ref h, .ref rcd, .ref wl4]) htt
    have S21 := s20.trans s21
    exact q tt h hg hc rcd wl4 n gv rc kr3 rm3 ws4 _ (T18.trans S21) upd_same (ho18.same S21) n17 (S21 _ _ er18) (rD18.map fun b q z => z.same S21) (s21 _ _ ewl4) hws4
end

section
variable {P : Program} {w : World} {K : PySem.W.Frag} {mg : Str → Option Value} {base : Heap}
noncomputable abbrev s_law_paper : Stmt := top 21
theorem sc_law_paper : FnScope ["house", "records", "worths", "name", "k", "read", "number"] ["house", "records", "worths", "name"] (defScope s_law_paper) := ⟨rfl, rfl, rfl, by decide +kernel, rfl, by decide +kernel, by decide +kernel⟩
theorem vo_law_paper_name : VarOk (defScope s_law_paper) "name" := by decide +kernel
theorem vo_law_paper_house : VarOk (defScope s_law_paper) "house" := by decide +kernel
theorem vo_law_paper_records : VarOk (defScope s_law_paper) "records" := by decide +kernel
theorem gl_law_paper_range : (defScope s_law_paper).names.lookup ("range" : Str) = some NameKind.globalImplicit := by decide +kernel
theorem gl_law_paper_len : (defScope s_law_paper).names.lookup ("len" : Str) = some NameKind.globalImplicit := by decide +kernel
theorem nn_law_paper_len : ("len" : Str) ≠ "__name__" := by decide +kernel
theorem db_law_paper_len : (("len" : Str) == ("__debug__" : Str)) = false := by decide +kernel
theorem lo_law_paper_k : Loc (defScope s_law_paper) "k" := by decide +kernel
theorem vo_law_paper_k : VarOk (defScope s_law_paper) "k" := by decide +kernel
theorem lo_law_paper_number : Loc (defScope s_law_paper) "number" := by decide +kernel
theorem lo_law_paper_read : Loc (defScope s_law_paper) "read" := by decide +kernel
theorem vo_law_paper_worths : VarOk (defScope s_law_paper) "worths" := by decide +kernel
theorem vo_law_paper_read : VarOk (defScope s_law_paper) "read" := by decide +kernel
theorem vo_law_paper_number : VarOk (defScope s_law_paper) "number" := by decide +kernel
theorem ok_law_paper {f : Addr} {fd : FuncData} (T_law_paper : FnT K mg "_law_paper" s_law_paper ["house", "records", "worths", "name"] f fd) (T : Blt mg) : FnOk P w K mg base CX0 1 f fd ["house", "records", "worths", "name"] sp2Pa := by
  refine T_law_paper.F.okQ sc_law_paper (fun vs H Q E h => ?_) (fun cdv A outer s H vs Q E hr h => ?_)
  · obtain ⟨h, g, c, rcd, wd, n, gv, rc, kr, kw, rm, rmN, kn, x, rfl, _⟩ := h
    rfl
  obtain ⟨h, hg, hc, rcd, wd, n, gv, rc, kr, kw, rm, rmN, kn, x, rfl, ho, n17, er, rD, rw', hkw, sok, hkx, q⟩ := h
  refine ⟨_, (qss_cons (qs_if (qt_din (hu_of hr) (qe_var 3 vo_law_paper_name) (qe_ix qix_tup (qe_var 0 vo_law_paper_house) qe_int)) (qss_one (qs_ret (qe_tup (qa_C qe_str qa_nil)))) qss_nil)
    (qss_cons (qs_if (qt_dnotin (hu_of hr) (qe_var 3 vo_law_paper_name) (qe_var 1 vo_law_paper_records)) (qss_one (qs_ret (qe_tup (qa_C qe_str qa_nil)))) qss_nil)
    (qss_cons (qs_if (qt_cmp (qop_neD hr.units) (qe_ix qix_tup (qe_dget (hu_of hr) (qe_var 1 vo_law_paper_records) (qe_var 3 vo_law_paper_name)) qe_int) (qe_dget (hu_of hr) (qe_ix qix_tup (qe_var 0 vo_law_paper_house) qe_int) (qe_var 3 vo_law_paper_name)) (nomarkQ _)) (qss_one (qs_ret (qe_tup (qa_C qe_str (qa_S (qe_ix qix_tup (qe_dget (hu_of hr) (qe_var 1 vo_law_paper_records) (qe_var 3 vo_law_paper_name)) qe_int) (qa_S (qe_dget (hu_of hr) (qe_ix qix_tup (qe_var 0 vo_law_paper_house) qe_int) (qe_var 3 vo_law_paper_name)) qa_nil)))))) qss_nil)
    (qss_cons (qs_for PassesOwn.never rfl (qi_range1 gl_law_paper_range T.b_range (qa_F (qe_callB qc_len_seq gl_law_paper_len T.b_len bt_len (qa_S (qe_ix qix_tup (qe_dget (hu_of hr) (qe_var 1 vo_law_paper_records) (qe_var 3 vo_law_paper_name)) qe_int) qa_nil) nn_law_paper_len db_law_paper_len) qa_nil)) (qg_name (i := 4) sc_law_paper.nd rfl lo_law_paper_k) (qss_cons (qs_asg (qe_ix qix_list (qe_ix qix_tup (qe_dget (hu_of hr) (qe_var 1 vo_law_paper_records) (qe_var 3 vo_law_paper_name)) qe_int) (qe_var 4 vo_law_paper_k)) (qg_tup rfl (qgs_cons (qg_name (i := 5) sc_law_paper.nd rfl lo_law_paper_read) (qgs_cons (qg_name (i := 6) sc_law_paper.nd rfl lo_law_paper_number) qgs_nil))))
    (qss_one (qs_if (qt_cmp qop_ne (qe_dget (hu_of hr) (qe_var 2 vo_law_paper_worths) (qe_var 5 vo_law_paper_read)) (qe_var 6 vo_law_paper_number) (nomarkQ _)) (qss_one (qs_ret (qe_tup (qa_C qe_str (qa_N (qe_var 4 vo_law_paper_k) (qa_N (qe_var 6 vo_law_paper_number) (qa_S (qe_dget (hu_of hr) (qe_var 2 vo_law_paper_worths) (qe_var 5 vo_law_paper_read)) qa_nil))))))) qss_nil))))
    (qss_one (qs_ret (qe_tup (qa_C qe_str qa_nil)))))))), ?_⟩
  obtain ⟨kg, kc, eh, eg, ec, bd⟩ := id ho
  have dg : DGet H hg (.str x) ((gv x).map V.int) := by rw [← bd.g]; exact DGet.k (k := .inr x) eg
  have dr : DGet H rcd (.str x) (valV kr (.inr x)) := DGet.k (k := .inr x) er
  cases egv : gv x with
  | some v =>
    rw [egv] at dg
    have dg : DGet H hg (.str x) (some (.int v)) := dg
    walk_at "vs"
    intro b hb
    have s1 := same_new (.tup [.str "given"]) hb
    exact q b .given _ s1 (.given upd_same) (by show gv x ≠ none; rw [egv]; simp)
  | none =>
    rw [egv] at dg
    have dg : DGet H hg (.str x) none := dg
    cases erm : rm x with
    | none =>
      rw [rD.w x erm] at dr
      walk_at "vs"
      intro b hb
      have s1 := same_new (.tup [.str "new"]) hb
      exact q b .new _ s1 (.new upd_same) ⟨egv, erm⟩
    | some qq =>
      obtain ⟨r', ps, v'⟩ := qq
      obtain ⟨bb, hbb, br, l, as, e1, R1, el, hRs, _⟩ := rD.v x _ erm
      obtain ⟨got', k', hk', ek', rk'⟩ := rD.ok x r' ps v' erm
      rw [hbb] at dr
      have R1 : IsR H br r' := R1
      have hRs : IsRds H as ps := hRs
      have e1 : H bb = some (.tup [.ref br, .ref l, .int v']) := e1
      obtain ⟨v, ekn⟩ : ∃ v, kn x = some v := by
        cases z : kn x with
        | none => exact absurd z hkx
        | some v => exact ⟨v, rfl⟩
      obtain ⟨r, qs, hrc, hrm⟩ : ∃ r qs, rc x = some r ∧ rmN x = some (r, qs, v) := by
        rcases (sok.a x v ekn).2 with z | ⟨_, r, qs, z1, z2⟩
        · rw [egv] at z; cases z
        · exact ⟨r, qs, z1, z2⟩
      obtain ⟨_, _, _, gotN, rowN⟩ := sok.b x r qs v hrm
      obtain ⟨k2, hk2, ek2, rk2⟩ := bd.ok.rk x r hrc
      obtain ⟨br2, hbr2, R2⟩ := bd.r x r hrc
      have dc : DGet H hc (.str x) (some (.ref br2)) := by rw [← hbr2]; exact DGet.k (k := .inr x) ec
      have hd1 := rk'.d
      have hd2 := rk2.d
      walk_at "vs"
      refine ⟨_, _, R1.dat, R2.dat, R.shaped rk'.g (by omega), R.shaped rk2.g (by omega), ?_⟩
      by_cases hrr : r' = r
      · subst hrr
        have he : PyData.eqv r'.dat r'.dat = true := PySem.SeqAt.eqv_refl _ (r'.lay rk'.g)
        rw [he]
        have hlm : (as.map V.ref).length = ps.length := by rw [List.length_map]; exact hRs.length
        have hgn : ps.length ≤ k' := chn_len got'.c rk'.i
        walk_at "vs"
        refine for_range (fun i σ H' => (∃ t u v, σ = [some (.ref h), some (.ref rcd), some (.ref wd), some (.str x), t, u, v]) ∧ H' = H ∧ ∀ (j : Nat) p, j < i → ps[j]? = some p → kn p.1 = some p.2) ?_ ?_ ?_
        · exact ⟨⟨none, none, none, rfl⟩, rfl, fun j p hj => by omega⟩
        · intro i σ H' hi hP
          obtain ⟨⟨t, u, v0, rfl⟩, rfl, hj⟩ := hP
          have hi' : i < ps.length := by
            have : i < ((as.map V.ref).length : Int).toNat := hi
            omega
          have hia : i < as.length := by rw [hRs.length]; exact hi'
          have hae : as[i]? = some (as[i]) := List.getElem?_eq_getElem hia
          obtain ⟨p, hp, ep⟩ := hRs.get i _ hae
          obtain ⟨u2, hu2⟩ := again i got'.c gotN.c gotN.e rowN.s hj p hp
          have ei : (0 + (i : Int)) = (i : Int) := by omega
          have hat : atI (as.map V.ref) (i : Int) = some (.ref (as[i])) := atI_nat (by rw [List.getElem?_map, hae]; rfl)
          have ep : H' as[i] = some (.tup [.str p.1, .int p.2]) := ep
          have dw : DGet H' wd (.str p.1) (some (.int u2)) := by
            have : valV kw (.inr p.1) = some (.int u2) := by rw [hkw, hu2]; rfl
            rw [← this]; exact .inl ⟨kw, .inr p.1, rw', rfl, rfl⟩
          rw [ei]
          generalize as[i] = ai at *
          walk_at "vs"
          refine ite2 (fun c1 => ?_) (fun c1 => ?_)
          · walk_at "vs"
            intro b hb
            have s1 := same_new (.tup [.str "read", .int (i : Int), .int p.2, .int u2]) hb
            exact q b (.rd i p.2 u2) _ s1 (.rd upd_same) ⟨egv, r', ps, v', p.1, erm, hrc, hj, hp, hu2, by simpa using c1⟩
          · have c1' : u2 = p.2 := by
              by_cases z : u2 = p.2
              · exact z
              · exact absurd (by simpa using z) c1
            walk_at "vs"
            refine ⟨⟨_, _, _, rfl⟩, rfl, fun j p' hj' hp' => ?_⟩
            by_cases z : j = i
            · rw [z, hp] at hp'; cases hp'; rw [hu2, c1']
            · exact hj j p' (by omega) hp'
        · intro σ H' hP
          obtain ⟨⟨t, u, v0, rfl⟩, rfl, hj⟩ := hP
          walk_at "vs"
          intro b hb
          have s1 := same_new (.tup [.str "alike"]) hb
          refine q b .alike _ s1 (.alike upd_same) ⟨egv, r', ps, v', erm, hrc, fun j p hp => hj j p ?_ hp⟩
          have : j < ps.length := (List.getElem?_eq_some_iff.mp hp).1
          show j < ((as.map V.ref).length : Int).toNat
          omega
      · have he : PyData.eqv r'.dat r.dat = false := by
          cases z : PyData.eqv r'.dat r.dat with
          | false => rfl
          | true => exact absurd (r'.eqv_eq r z) hrr
        rw [he]
        walk_at "vs"
        intro b hb
        have s1 := same_new (.tup [.str "recipe", .ref br, .ref br2]) hb
        exact q b (.rcp r' r) _ s1 (.rcp upd_same (R1.same s1) (R2.same s1) rk'.g rk2.g (by omega) (by omega)) ⟨egv, hrc, hrr, ps, v', erm⟩
end

section
variable {P : Program} {w : World} {K : PySem.W.Frag} {mg : Str → Option Value} {base : Heap}
noncomputable abbrev s_paper_of : Stmt := top 4
theorem sc_paper_of : FnScope ["house", "records", "worths", "name", "record", "now", "k", "read"] ["house", "records", "worths", "name"] (defScope s_paper_of) := ⟨rfl, rfl, rfl, by decide +kernel, rfl, by decide +kernel, by decide +kernel⟩
theorem vo_paper_of_name : VarOk (defScope s_paper_of) "name" := by decide +kernel
theorem vo_paper_of_house : VarOk (defScope s_paper_of) "house" := by decide +kernel
theorem vo_paper_of_records : VarOk (defScope s_paper_of) "records" := by decide +kernel
theorem lo_paper_of_record : Loc (defScope s_paper_of) "record" := by decide +kernel
theorem lo_paper_of_now : Loc (defScope s_paper_of) "now" := by decide +kernel
theorem gl_paper_of_is_same : (defScope s_paper_of).names.lookup ("is_same" : Str) = some NameKind.globalImplicit := by decide +kernel
theorem vo_paper_of_record : VarOk (defScope s_paper_of) "record" := by decide +kernel
theorem vo_paper_of_now : VarOk (defScope s_paper_of) "now" := by decide +kernel
theorem db_paper_of_is_same : (("is_same" : Str) == ("__debug__" : Str)) = false := by decide +kernel
theorem gl_paper_of_enumerate : (defScope s_paper_of).names.lookup ("enumerate" : Str) = some NameKind.globalImplicit := by decide +kernel
theorem lo_paper_of_read : Loc (defScope s_paper_of) "read" := by decide +kernel
theorem lo_paper_of_k : Loc (defScope s_paper_of) "k" := by decide +kernel
theorem vo_paper_of_worths : VarOk (defScope s_paper_of) "worths" := by decide +kernel
theorem vo_paper_of_read : VarOk (defScope s_paper_of) "read" := by decide +kernel
theorem vo_paper_of_k : VarOk (defScope s_paper_of) "k" := by decide +kernel
theorem ok_paper_of {f g0 : Addr} {fd gd0 : FuncData} (T_paper_of : FnT K mg "paper_of" s_paper_of ["house", "records", "worths", "name"] f fd) (T_is_same : FnT K mg "is_same" s_is_same ["told", "thing"] g0 gd0) (G_is_same : FnOk P w K mg base CX0 12 g0 gd0 ["told", "thing"] (spSame K 10)) (T : Blt mg) :
    FnOk P w K mg base CX0 13 f fd ["house", "records", "worths", "name"] sp2Pa := by
  refine T_paper_of.F.okQ sc_paper_of (fun vs H Q E h => ?_) (fun cdv A outer s H vs Q E hr h => ?_)
  · obtain ⟨h, g, c, rcd, wd, n, gv, rc, kr, kw, rm, rmN, kn, x, rfl, _⟩ := h
    rfl
  obtain ⟨h, hg, hc, rcd, wd, n, gv, rc, kr, kw, rm, rmN, kn, x, rfl, ho, n17, er, rD, rw', hkw, sok, hkx, q⟩ := h
  refine ⟨_, (qss_cons (qs_if (qt_din (hu_of hr) (qe_var 3 vo_paper_of_name) (qe_ix qix_tup (qe_var 0 vo_paper_of_house) qe_int)) (qss_one (qs_ret (qe_tup (qa_C qe_str qa_nil)))) qss_nil)
    (qss_cons (qs_if (qt_dnotin (hu_of hr) (qe_var 3 vo_paper_of_name) (qe_var 1 vo_paper_of_records)) (qss_one (qs_ret (qe_tup (qa_C qe_str qa_nil)))) qss_nil)
    (qss_cons (qs_set (i := 4) sc_paper_of.nd rfl lo_paper_of_record (qe_dget (hu_of hr) (qe_var 1 vo_paper_of_records) (qe_var 3 vo_paper_of_name)))
    (qss_cons (qs_set (i := 5) sc_paper_of.nd rfl lo_paper_of_now (qe_dget (hu_of hr) (qe_ix qix_tup (qe_var 0 vo_paper_of_house) qe_int) (qe_var 3 vo_paper_of_name)))
    (qss_cons (qs_if (qt_not (qt_val (qe_call (G_is_same.mono (by omega)) hr gl_paper_of_is_same T_is_same.m T_is_same.F.kp T_is_same.b .nil pass0 (qa_N (qe_var 5 vo_paper_of_now) (qa_S (qe_ix qix_tup (qe_var 4 vo_paper_of_record) qe_int) qa_nil)) db_paper_of_is_same))) (qss_one (qs_ret (qe_tup (qa_C qe_str (qa_S (qe_ix qix_tup (qe_var 4 vo_paper_of_record) qe_int) (qa_N (qe_var 5 vo_paper_of_now) qa_nil)))))) qss_nil)
    (qss_cons (qs_for PassesOwn.never rfl (qi_enum gl_paper_of_enumerate T.b_enumerate (qa_S (qe_ix qix_tup (qe_var 4 vo_paper_of_record) qe_int) qa_nil)) (qg_tup rfl (qgs_cons (qg_name (i := 6) sc_paper_of.nd rfl lo_paper_of_k) (qgs_cons (qg_name (i := 7) sc_paper_of.nd rfl lo_paper_of_read) qgs_nil))) (qss_one (qs_if (qt_cmp qop_ne (qe_dget1 (hu_of hr) (qe_var 2 vo_paper_of_worths) (qe_ix qix_tup (qe_var 7 vo_paper_of_read) qe_int) ⟨rfl, rfl, rfl, rfl⟩) (qe_ix qix_tup (qe_var 7 vo_paper_of_read) qe_int) (nomarkQ _)) (qss_one (qs_ret (qe_tup (qa_C qe_str (qa_N (qe_var 6 vo_paper_of_k) (qa_S (qe_ix qix_tup (qe_var 7 vo_paper_of_read) qe_int) (qa_F (qe_dget1 (hu_of hr) (qe_var 2 vo_paper_of_worths) (qe_ix qix_tup (qe_var 7 vo_paper_of_read) qe_int) ⟨rfl, rfl, rfl, rfl⟩) qa_nil))))))) qss_nil)))
    (qss_one (qs_ret (qe_tup (qa_C qe_str qa_nil)))))))))), ?_⟩
  obtain ⟨kg, kc, eh, eg, ec, bd⟩ := id ho
  have dg : DGet H hg (.str x) ((gv x).map V.int) := by rw [← bd.g]; exact DGet.k (k := .inr x) eg
  have dr : DGet H rcd (.str x) (valV kr (.inr x)) := DGet.k (k := .inr x) er
  cases egv : gv x with
  | some v =>
    rw [egv] at dg
    have dg : DGet H hg (.str x) (some (.int v)) := dg
    walk_at "vs"
    intro b hb
    have s1 := same_new (.tup [.str "given"]) hb
    exact q b .given _ s1 (.given upd_same) (by show gv x ≠ none; rw [egv]; simp)
  | none =>
    rw [egv] at dg
    have dg : DGet H hg (.str x) none := dg
    cases erm : rm x with
    | none =>
      rw [rD.w x erm] at dr
      walk_at "vs"
      intro b hb
      have s1 := same_new (.tup [.str "new"]) hb
      exact q b .new _ s1 (.new upd_same) ⟨egv, erm⟩
    | some qq =>
      obtain ⟨r', ps, v'⟩ := qq
      obtain ⟨bb, hbb, br, l, as, e1, R1, el, hRs, _⟩ := rD.v x _ erm
      obtain ⟨got', k', hk', ek', rk'⟩ := rD.ok x r' ps v' erm
      rw [hbb] at dr
      have R1 : IsR H br r' := R1
      have hRs : IsRds H as ps := hRs
      have e1 : H bb = some (.tup [.ref br, .ref l, .int v']) := e1
      obtain ⟨v, ekn⟩ : ∃ v, kn x = some v := by
        cases z : kn x with
        | none => exact absurd z hkx
        | some v => exact ⟨v, rfl⟩
      obtain ⟨r, qs, hrc, hrm⟩ : ∃ r qs, rc x = some r ∧ rmN x = some (r, qs, v) := by
        rcases (sok.a x v ekn).2 with z | ⟨_, r, qs, z1, z2⟩
        · rw [egv] at z; cases z
        · exact ⟨r, qs, z1, z2⟩
      obtain ⟨_, _, _, gotN, rowN⟩ := sok.b x r qs v hrm
      obtain ⟨k2, hk2, ek2, rk2⟩ := bd.ok.rk x r hrc
      obtain ⟨br2, hbr2, R2⟩ := bd.r x r hrc
      have dc : DGet H hc (.str x) (some (.ref br2)) := by rw [← hbr2]; exact DGet.k (k := .inr x) ec
      have hd1 := rk'.d
      have hd2 := rk2.d
      have t2 : IsTh K H (.ref br2) r.toTh := R2.isTh
      have t1 : IsTh K H (.ref br) r'.toTh := R1.isTh
      have p2 : DpT 10 r.toTh := (r.dpT (good_fineR rk2.g)).mono (show r.depth + 1 ≤ 10 by omega)
      walk_at "vs"
      intro H1 S1
      have e1' := S1 _ _ e1
      have el' := S1 _ _ el
      have hRs' : IsRds H1 as ps := hRs.tups (Same.tups S1)
      have R1' := R1.same S1
      have R2' := R2.same S1
      have rw1 : Rd H1 wd (.dK kw) := Rd.same rw' S1
      have iD : IsD H1 wd := .inl ⟨_, rw1⟩
      by_cases hrr : r' = r
      · subst hrr
        rw [same_eq rfl]
        walk_at "vs"
        refine for_enum (xs := as.map V.ref) (fun i σ H' => (∃ t u, σ = [some (.ref h), some (.ref rcd), some (.ref wd), some (.str x), some (.ref bb), some (.ref br2), t, u]) ∧ Same H1 H' ∧ ∀ (j : Nat) p, j < i → ps[j]? = some p → kn p.1 = some p.2) ?_ ?_ ?_ ?_
        · exact ⟨⟨none, none, rfl⟩, Same.refl _, fun j p hj => by omega⟩
        · intro i σ H' hi hP
          exact SqL.of (hP.2.1 _ _ el')
        · intro i y T0 σ H' hy hT hP
          obtain ⟨⟨t, u, rfl⟩, S2, hj⟩ := hP
          obtain ⟨ai, hae, ey⟩ := ref_at hy
          subst ey
          obtain ⟨p, hp, ep⟩ := hRs'.get i _ hae
          obtain ⟨u2, hu2⟩ := again i got'.c gotN.c gotN.e rowN.s hj p hp
          have S3 := S2.trans (same_new (.tup [.int (i : Int), .ref ai]) hT)
          have eT : upd H' T0 (.tup [.int (i : Int), .ref ai]) T0 = some (.tup [.int (i : Int), .ref ai]) := upd_same
          generalize upd H' T0 (.tup [.int (i : Int), .ref ai]) = H3 at *
          have ep3 : H3 ai = some (.tup [.str p.1, .int p.2]) := S3 _ _ ep
          have rw3 : Rd H3 wd (.dK kw) := Rd.same rw1 S3
          have iD3 : IsD H3 wd := .inl ⟨_, rw3⟩
          have dw : DGet H3 wd (.str p.1) (some (.int u2)) := by
            have : valV kw (.inr p.1) = some (.int u2) := by rw [hkw, hu2]; rfl
            rw [← this]; exact .inl ⟨kw, .inr p.1, rw3, rfl, rfl⟩
          walk_at "vs"
          refine ite2 (fun c1 => ?_) (fun c1 => ?_)
          · walk_at "vs"
            intro b hb
            have s1 := same_new (.tup [.str "read", .int (i : Int), .int p.2, .int u2]) hb
            exact q b (.rd i p.2 u2) _ ((S1.trans S3).trans s1) (.rd upd_same) ⟨egv, r', ps, v', p.1, erm, hrc, hj, hp, hu2, by simpa using c1⟩
          · have c1' : u2 = p.2 := by
              by_cases z : u2 = p.2
              · exact z
              · exact absurd (by simpa using z) c1
            walk_at "vs"
            refine ⟨⟨_, _, rfl⟩, S3, fun j p' hj' hp' => ?_⟩
            by_cases z : j = i
            · rw [z, hp] at hp'; cases hp'; rw [hu2, c1']
            · exact hj j p' (by omega) hp'
        · intro σ H' hP
          obtain ⟨⟨t, u, rfl⟩, S2, hj⟩ := hP
          walk_at "vs"
          intro b hb
          have s1 := same_new (.tup [.str "alike"]) hb
          refine q b .alike _ ((S1.trans S2).trans s1) (.alike upd_same) ⟨egv, r', ps, v', erm, hrc, fun j p hp => hj j p ?_ hp⟩
          have h1 : j < ps.length := (List.getElem?_eq_some_iff.mp hp).1
          have h2 := hRs.length
          rw [List.length_map]; omega
      · rw [same_ne (fun z => hrr z.symm)]
        walk_at "vs"
        intro b hb
        have s1 := same_new (.tup [.str "recipe", .ref br, .ref br2]) hb
        exact q b (.rcp r' r) _ (S1.trans s1) (.rcp upd_same (R1'.same s1) (R2'.same s1) rk'.g rk2.g (by omega) (by omega)) ⟨egv, hrc, hrr, ps, v', erm⟩
noncomputable abbrev s_paper_shows : Stmt := top 5
theorem sc_paper_shows : FnScope ["house", "records", "worths", "name", "paper"] ["house", "records", "worths", "name", "paper"] (defScope s_paper_shows) := ⟨rfl, rfl, rfl, by decide +kernel, rfl, by decide +kernel, by decide +kernel⟩
theorem vo_paper_shows_name : VarOk (defScope s_paper_shows) "name" := by decide +kernel
theorem vo_paper_shows_house : VarOk (defScope s_paper_shows) "house" := by decide +kernel
theorem vo_paper_shows_worths : VarOk (defScope s_paper_shows) "worths" := by decide +kernel
theorem gl_paper_shows_is_same : (defScope s_paper_shows).names.lookup ("is_same" : Str) = some NameKind.globalImplicit := by decide +kernel
theorem vo_paper_shows_paper : VarOk (defScope s_paper_shows) "paper" := by decide +kernel
theorem gl_paper_shows_paper_of : (defScope s_paper_shows).names.lookup ("paper_of" : Str) = some NameKind.globalImplicit := by decide +kernel
theorem vo_paper_shows_records : VarOk (defScope s_paper_shows) "records" := by decide +kernel
theorem db_paper_shows_paper_of : (("paper_of" : Str) == ("__debug__" : Str)) = false := by decide +kernel
theorem db_paper_shows_is_same : (("is_same" : Str) == ("__debug__" : Str)) = false := by decide +kernel
theorem ok_paper_shows {f g0 g1 : Addr} {fd gd0 gd1 : FuncData} (T_paper_shows : FnT K mg "paper_shows" s_paper_shows ["house", "records", "worths", "name", "paper"] f fd) (T_is_same : FnT K mg "is_same" s_is_same ["told", "thing"] g0 gd0) (G_is_same : FnOk P w K mg base CX0 12 g0 gd0 ["told", "thing"] (spSame K 10))
    (T_paper_of : FnT K mg "paper_of" s_paper_of ["house", "records", "worths", "name"] g1 gd1) (G_paper_of : FnOk P w K mg base CX0 13 g1 gd1 ["house", "records", "worths", "name"] sp2Pa) (T : Blt mg) :
    FnOk P w K mg base CX0 14 f fd ["house", "records", "worths", "name", "paper"] (sp2Sh K) := by
  refine T_paper_shows.F.okQ sc_paper_shows (fun vs H Q E h => ?_) (fun cdv A outer s H vs Q E hr h => ?_)
  · obtain ⟨h, g, c, rcd, wd, n, gv, rc, kr, kw, rm, rmN, kn, x, v, t, rfl, _⟩ := h
    rfl
  obtain ⟨h, hg, hc, rcd, wd, n, gv, rc, kr, kw, rm, rmN, kn, x, v, t, rfl, ho, n17, er, rD, ew, hkw, sok, ht, q0, q⟩ := h
  refine ⟨_, (qss_cons (qs_if (qt_w (qw_or (qt_dnotin (hu_of hr) (qe_var 3 vo_paper_shows_name) (qe_var 2 vo_paper_shows_worths)) (qw_or1 (qt_w (qw_and (qt_dnotin (hu_of hr) (qe_var 3 vo_paper_shows_name) (qe_ix qix_tup (qe_var 0 vo_paper_shows_house) qe_int)) (qw_and1 (qt_dnotin (hu_of hr) (qe_var 3 vo_paper_shows_name) (qe_ix qix_tup (qe_var 0 vo_paper_shows_house) qe_int)))))))) (qss_one (qs_ret qe_bl)) qss_nil)
    (qss_one (qs_ret (qe_call (G_is_same.mono (by omega)) hr gl_paper_shows_is_same T_is_same.m T_is_same.F.kp T_is_same.b .nil pass0 (qa_F (qe_call (G_paper_of.mono (by omega)) hr gl_paper_shows_paper_of T_paper_of.m T_paper_of.F.kp T_paper_of.b .nil pass0 (qa_N (qe_var 0 vo_paper_shows_house) (qa_N (qe_var 1 vo_paper_shows_records) (qa_N (qe_var 2 vo_paper_shows_worths) (qa_N (qe_var 3 vo_paper_shows_name) qa_nil)))) db_paper_shows_paper_of) (qa_N (qe_var 4 vo_paper_shows_paper) qa_nil)) db_paper_shows_is_same)))), ?_⟩
  have dw : DGet H wd (.str x) ((kn x).map V.int) := by rw [← hkw]; exact DGet.k (k := .inr x) ew
  cases ekn : kn x with
  | none =>
    rw [ekn] at dw
    have dw : DGet H wd (.str x) none := dw
    walk_at "vs"
    exact q0 ekn _ (Same.refl _)
  | some u =>
    rw [ekn] at dw
    have dw : DGet H wd (.str x) (some (.int u)) := dw
    obtain ⟨kg, kc, eh, eg, ec, bd⟩ := id ho
    have dg : DGet H hg (.str x) ((gv x).map V.int) := by rw [← bd.g]; exact DGet.k (k := .inr x) eg
    have rw1 : Rd H wd (.dK kw) := .inl ew
    have hne : kn x ≠ none := by rw [ekn]; simp
    cases egv : gv x with
    | some v =>
      rw [egv] at dg
      have dg : DGet H hg (.str x) (some (.int v)) := dg
      walk_at "vs"
      intro b p H1 S1 hA hI
      have ta : IsTh K H1 (.ref b) p.toTh := hA.isTh
      have tb := ht.same S1
      have dp := hA.dpT
      walk_at "vs"
      intro H2 S2
      exact q p _ hne hI (S1.trans S2)
    | none =>
      rw [egv] at dg
      have dg : DGet H hg (.str x) none := dg
      obtain ⟨r, hrc⟩ : ∃ r, rc x = some r := by
        rcases (sok.a x u ekn).2 with z | ⟨_, r, qs, z1, z2⟩
        · rw [egv] at z; cases z
        · exact ⟨r, z1⟩
      obtain ⟨br2, hbr2, R2⟩ := bd.r x r hrc
      have dc : DGet H hc (.str x) (some (.ref br2)) := by rw [← hbr2]; exact DGet.k (k := .inr x) ec
      walk_at "vs"
      intro b p H1 S1 hA hI
      have ta : IsTh K H1 (.ref b) p.toTh := hA.isTh
      have tb := ht.same S1
      have dp := hA.dpT
      walk_at "vs"
      intro H2 S2
      exact q p _ hne hI (S1.trans S2)
end

section
variable {P : Program} {w : World} {K : PySem.W.Frag} {mg : Str → Option Value} {base : Heap}
noncomputable abbrev s_law_alike : Stmt := top 24
theorem sc_law_alike : FnScope ["one", "other"] ["one", "other"] (defScope s_law_alike) := ⟨rfl, rfl, rfl, by decide +kernel, rfl, by decide +kernel, by decide +kernel⟩
theorem gl_law_alike_isinstance : (defScope s_law_alike).names.lookup ("isinstance" : Str) = some NameKind.globalImplicit := by decide +kernel
theorem gl_law_alike_tuple : (defScope s_law_alike).names.lookup ("tuple" : Str) = some NameKind.globalImplicit := by decide +kernel
theorem nn_law_alike_tuple : ("tuple" : Str) ≠ "__name__" := by decide +kernel
theorem db_law_alike_tuple : (("tuple" : Str) == ("__debug__" : Str)) = false := by decide +kernel
theorem vo_law_alike_other : VarOk (defScope s_law_alike) "other" := by decide +kernel
theorem nn_law_alike_isinstance : ("isinstance" : Str) ≠ "__name__" := by decide +kernel
theorem db_law_alike_isinstance : (("isinstance" : Str) == ("__debug__" : Str)) = false := by decide +kernel
theorem vo_law_alike_one : VarOk (defScope s_law_alike) "one" := by decide +kernel
theorem gl_law_alike_len : (defScope s_law_alike).names.lookup ("len" : Str) = some NameKind.globalImplicit := by decide +kernel
theorem nn_law_alike_len : ("len" : Str) ≠ "__name__" := by decide +kernel
theorem db_law_alike_len : (("len" : Str) == ("__debug__" : Str)) = false := by decide +kernel
theorem db_law_alike__law_alike : (("_law_alike" : Str) == ("__debug__" : Str)) = false := by decide +kernel
theorem gl_law_alike_range : (defScope s_law_alike).names.lookup ("range" : Str) = some NameKind.globalImplicit := by decide +kernel
theorem gl_law_alike_bool : (defScope s_law_alike).names.lookup ("bool" : Str) = some NameKind.globalImplicit := by decide +kernel
theorem nn_law_alike_bool : ("bool" : Str) ≠ "__name__" := by decide +kernel
theorem db_law_alike_bool : (("bool" : Str) == ("__debug__" : Str)) = false := by decide +kernel
theorem step_law_alike {d : Nat} {f : Addr} {fd : FuncData} (T_law_alike : FnT K mg "_law_alike" s_law_alike ["one", "other"] f fd) (G_law_alike : FnOk P w K mg base CX0 (d + 1) f fd ["one", "other"] (fun vs H Q E => 0 < d ∧ spLk K (d - 1) vs H Q E)) (T : Blt mg) (kd : Kinds K) :
    FnOk P w K mg base CX0 (d + 2) f fd ["one", "other"] (spLk K d) := by
  refine T_law_alike.F.okQ sc_law_alike (fun vs H Q E h => ?_) (fun cdv A outer s H vs Q E hr h => ?_)
  · obtain ⟨v, t, v', t', rfl, _⟩ := h
    rfl
  obtain ⟨v, t, v', t', rfl, ht, hu, n1, n2, hd, q⟩ := h
  refine ⟨_, (qss_cons (qs_if (qt_w (qw_and (qt_val (qe_callB qc_isi gl_law_alike_isinstance T.b_isinstance bt_isinstance (qa_N (qe_var 0 vo_law_alike_one) (qa_N (qe_bltn (v := .ty "tuple") gl_law_alike_tuple T.b_tuple bt_tuple rfl nn_law_alike_tuple db_law_alike_tuple) qa_nil)) nn_law_alike_isinstance db_law_alike_isinstance)) (qw_and1 (qt_val (qe_callB qc_isi gl_law_alike_isinstance T.b_isinstance bt_isinstance (qa_N (qe_var 1 vo_law_alike_other) (qa_N (qe_bltn (v := .ty "tuple") gl_law_alike_tuple T.b_tuple bt_tuple rfl nn_law_alike_tuple db_law_alike_tuple) qa_nil)) nn_law_alike_isinstance db_law_alike_isinstance))))) (qss_cons (qs_if (qt_cmp qop_ne (qe_callB qc_len_seq gl_law_alike_len T.b_len bt_len (qa_N (qe_var 0 vo_law_alike_one) qa_nil) nn_law_alike_len db_law_alike_len) (qe_callB qc_len_seq gl_law_alike_len T.b_len bt_len (qa_N (qe_var 1 vo_law_alike_other) qa_nil) nn_law_alike_len db_law_alike_len) (nomarkQ _)) (qss_one (qs_ret qe_bl)) qss_nil)
    (qss_one (qs_ret (qe_cmp (qop_eqNil hr.units) (qe_comp rfl (n := 1) (fr := [0, 1]) (N := ["k", "one", "other"]) (cs_mk (scX := defScope s_law_alike) (NX := ["one", "other"]) rfl rfl (by decide +kernel)) (qi_range1 gl_law_alike_range T.b_range (qa_F (qe_callB qc_len_seq gl_law_alike_len T.b_len bt_len (qa_N (qe_var 0 vo_law_alike_one) qa_nil) nn_law_alike_len db_law_alike_len) qa_nil)) (fun _ _ _ _ _ => (qgx (i := 0) (show List.Nodup (α := Str) ["k", "one", "other"] by decide) (locC (by decide +kernel)))) (fun _ _ _ _ _ => (qi_one (qt_not (qt_val (qe_call (G_law_alike.mono (by omega)) hr (glC (by decide +kernel)) T_law_alike.m T_law_alike.F.kp T_law_alike.b .nil pass0 (qa_S (qe_ix (qix_tupK (K := K) rfl) (qe_var 1 (VarC.ok (by decide +kernel))) (qe_var 0 (VarC.ok (by decide +kernel)))) (qa_S (qe_ix (qix_tupK (K := K) rfl) (qe_var 2 (VarC.ok (by decide +kernel))) (qe_var 0 (VarC.ok (by decide +kernel)))) qa_nil)) db_law_alike__law_alike))))) (fun _ _ _ _ _ => (qe_var 0 (VarC.ok (by decide +kernel))))) (qe_lst qa_nil) (nomarkQ _))))) qss_nil)
    (qss_one (qs_ret (qe_and (qe_cmp (qop_eqD hr.units) (qe_var 0 vo_law_alike_one) (qe_var 1 vo_law_alike_other) (nomarkQ _)) (qe_one (qe_cmp qop_eq (qe_callB qc_isi gl_law_alike_isinstance T.b_isinstance bt_isinstance (qa_N (qe_var 0 vo_law_alike_one) (qa_N (qe_bltn (v := .ty "bool") gl_law_alike_bool T.b_bool bt_bool rfl nn_law_alike_bool db_law_alike_bool) qa_nil)) nn_law_alike_isinstance db_law_alike_isinstance) (qe_callB qc_isi gl_law_alike_isinstance T.b_isinstance bt_isinstance (qa_N (qe_var 1 vo_law_alike_other) (qa_N (qe_bltn (v := .ty "bool") gl_law_alike_bool T.b_bool bt_bool rfl nn_law_alike_bool db_law_alike_bool) qa_nil)) nn_law_alike_isinstance db_law_alike_isinstance) (nomarkQ _))))))), ?_⟩
  have h1 := ht.ty
  have h2 := ht.isi kd (c := "tuple") (by simp [tys])
  have h3 := ht.isi kd (c := "bool") (by simp [tys])
  have g1 := hu.ty
  have g2 := hu.isi kd (c := "tuple") (by simp [tys])
  have g3 := hu.isi kd (c := "bool") (by simp [tys])
  have b1 : subT (tyTh t) "bool" = isBT t := by
    cases t with
    | oth T => cases ht with
      | oth h hT k => rcases hT with rfl | rfl <;> rfl
    | _ => rfl
  have b2 : subT (tyTh t') "bool" = isBT t' := by
    cases t' with
    | oth T => cases hu with
      | oth h hT k => rcases hT with rfl | rfl <;> rfl
    | _ => rfl
  rw [b1] at h3
  rw [b2] at g3
  have D1 := ht.datV n1
  have D2 := hu.datV n2
  have s1 := n1.shaped (by omega)
  have s2 := n2.shaped (by omega)
  have flat : ((∀ ts, t ≠ .tup ts) ∨ ∀ us, t' ≠ .tup us) → (PyData.eqv (thD t) (thD t') = true → Q (.bl (decide (V.bl (isBT t) = V.bl (isBT t')))) H) ∧ (PyData.eqv (thD t) (thD t') = false → Q (.bl false) H) := fun hf => by
    have e := alike_flat hf
    refine ⟨fun h => ?_, fun h => ?_⟩
    · rw [h, Bool.true_and] at e
      have e2 : decide (V.bl (isBT t) = V.bl (isBT t')) = alikeT t t' := by rw [e]; cases isBT t <;> cases isBT t' <;> simp
      rw [e2]; exact q _ (Same.refl _)
    · rw [h, Bool.false_and] at e
      rw [← e]; exact q _ (Same.refl _)
  have ht2 := ht
  cases ht2 with
  | @tup a vs ts ea ha =>
    have ct : subT (tyTh (.tup ts)) "tuple" = true := rfl
    rw [ct] at h2
    have hu2 := hu
    cases hu2 with
    | @tup b us rs eb hb =>
      have cu : subT (tyTh (.tup rs)) "tuple" = true := rfl
      rw [cu] at g2
      have l1 := ha.length
      have l2 := hb.length
      walk_at "vs"
      by_cases hl : vs.length = us.length
      · refine itB_f (by rw [hl]; simp) ?_
        have hd0 : 0 < d := by
          cases d with
          | zero => exact absurd n1 (by simp [NiT])
          | succ d => omega
        obtain ⟨d, rfl⟩ : ∃ e, d = e + 1 := ⟨d - 1, by omega⟩
        obtain ⟨m1, m2⟩ : ts.length ≤ 1000 ∧ ∀ t ∈ ts, NiT d t := n1
        obtain ⟨m3, m4⟩ : rs.length ≤ 1000 ∧ ∀ t ∈ rs, NiT d t := n2
        walk_at "vs"
        intro D hD
        refine comp_range (fun i σ' H' => (∃ t, σ' = [t, some (.ref a), some (.ref b)]) ∧ ∃ ks : List Int, H' D = some (.lst (ks.map V.int)) ∧ ks.length ≤ i ∧ (ks = [] ↔ ∀ j (h1 : j < ts.length) (h2 : j < rs.length), j < i → alikeT ts[j] rs[j] = true) ∧ Same H H') ?_ ?_ ?_
        · exact ⟨⟨none, rfl⟩, [], upd_same, Nat.le_refl _, ⟨fun _ j _ _ h => by omega, fun _ => rfl⟩, same_new _ hD⟩
        · intro i σ' H' hi hP
          obtain ⟨⟨t, rfl⟩, ks, eD, kl, kk, S0⟩ := hP
          have hi' : i < vs.length := by
            have : i < ((vs.length : Nat) : Int).toNat := hi
            omega
          have ei : (0 + (i : Int)) = (i : Int) := by omega
          have x1 : atI vs (i : Int) = some vs[i] := atI_nat (List.getElem?_eq_getElem hi')
          have x2 : atI us (i : Int) = some (us[i]'(by omega)) := atI_nat (List.getElem?_eq_getElem (by omega))
          obtain ⟨i1, y1⟩ := ha.at (List.getElem?_eq_getElem hi')
          obtain ⟨i2, y2⟩ := hb.at (List.getElem?_eq_getElem (show i < us.length by omega))
          have y1' := y1.same S0
          have y2' := y2.same S0
          have z1 := m2 _ (List.getElem_mem i1)
          have z2 := m4 _ (List.getElem_mem i2)
          have ea' := S0 _ _ ea
          have eb' := S0 _ _ eb
          rw [ei]
          walk_at "vs"
          intro H5 S5
          have eD5 := S5 _ _ eD
          cases hal : alikeT ts[i] rs[i] with
          | true =>
            walk_at "vs"
            refine ⟨⟨_, rfl⟩, ks, eD5, by omega, ?_, S0.trans S5⟩
            rw [kk]
            constructor
            · intro h j h1 h2 hj
              by_cases z : j = i
              · subst z; exact hal
              · exact h j h1 h2 (by omega)
            · intro h j h1 h2 hj
              exact h j h1 h2 (by omega)
          | false =>
            walk_at "vs"
            refine ⟨?_, ⟨_, rfl⟩, ks ++ [(i : Int)], ?_, by simp; omega, ?_, same_updN _ hD (S0.trans S5)⟩
            · rw [List.length_map]; exact small1000 (by omega)
            · rw [upd_same, List.map_append]; rfl
            · constructor
              · intro h; exact absurd h (by simp)
              · intro h
                have := h i i1 i2 (by omega)
                rw [hal] at this; cases this
        · intro σ' H' hP
          obtain ⟨⟨t, rfl⟩, ks, eD, kl, kk, S0⟩ := hP
          walk_at "vs"
          intro p hp
          have eD5 := (same_new (.lst []) hp) _ _ eD
          refine ⟨_, _, _, rfl, rfl, SqL.of eD5, SqL.of upd_same, ?_⟩
          have e : (ks.map V.int).isEmpty = alikeT (.tup ts) (.tup rs) := by
            rw [alikeT, Bool.eq_iff_iff, alikeTs_all (by omega)]
            simp only [List.isEmpty_map, List.isEmpty_iff]
            rw [kk]
            constructor
            · intro h i h1 h2
              exact h i h1 h2 (by show i < ((vs.length : Nat) : Int).toNat; omega)
            · intro h j h1 h2 _
              exact h j h1 h2
          rw [e]
          exact q _ (S0.trans (same_new (.lst []) hp))
      · refine itB_t (by simp; omega) ?_
        rw [show alikeT (.tup ts) (.tup rs) = false from by rw [alikeT]; exact alikeTs_len (by omega)] at q
        walk_at "vs"
        exact q _ (Same.refl _)
    | non =>
      obtain ⟨f1, f2⟩ := flat (.inr (by simp))
      walk_at "vs"
      refine ite2 (fun c1 => ?_) (fun c1 => ?_)
      · walk_at "vs"
        exact f1 c1
      · exact f2 (by simpa using c1)
    | bl b =>
      obtain ⟨f1, f2⟩ := flat (.inr (by simp))
      walk_at "vs"
      refine ite2 (fun c1 => ?_) (fun c1 => ?_)
      · walk_at "vs"
        exact f1 c1
      · exact f2 (by simpa using c1)
    | int i =>
      obtain ⟨f1, f2⟩ := flat (.inr (by simp))
      walk_at "vs"
      refine ite2 (fun c1 => ?_) (fun c1 => ?_)
      · walk_at "vs"
        exact f1 c1
      · exact f2 (by simpa using c1)
    | str x =>
      obtain ⟨f1, f2⟩ := flat (.inr (by simp))
      walk_at "vs"
      refine ite2 (fun c1 => ?_) (fun c1 => ?_)
      · walk_at "vs"
        exact f1 c1
      · exact f2 (by simpa using c1)
    | oth h hT k => exact absurd n2 (by cases d <;> simp [NiT])
  | non =>
      obtain ⟨f1, f2⟩ := flat (.inl (by simp))
      walk_at "vs"
      refine ite2 (fun c1 => ?_) (fun c1 => ?_)
      · walk_at "vs"
        exact f1 c1
      · exact f2 (by simpa using c1)
  | bl b =>
      obtain ⟨f1, f2⟩ := flat (.inl (by simp))
      walk_at "vs"
      refine ite2 (fun c1 => ?_) (fun c1 => ?_)
      · walk_at "vs"
        exact f1 c1
      · exact f2 (by simpa using c1)
  | int i =>
      obtain ⟨f1, f2⟩ := flat (.inl (by simp))
      walk_at "vs"
      refine ite2 (fun c1 => ?_) (fun c1 => ?_)
      · walk_at "vs"
        exact f1 c1
      · exact f2 (by simpa using c1)
  | str x =>
      obtain ⟨f1, f2⟩ := flat (.inl (by simp))
      walk_at "vs"
      refine ite2 (fun c1 => ?_) (fun c1 => ?_)
      · walk_at "vs"
        exact f1 c1
      · exact f2 (by simpa using c1)
  | oth h hT k => exact absurd n1 (by cases d <;> simp [NiT])
theorem ok_law_alike {f : Addr} {fd : FuncData} (T_law_alike : FnT K mg "_law_alike" s_law_alike ["one", "other"] f fd) (T : Blt mg) (kd : Kinds K) : ∀ d, FnOk P w K mg base CX0 (d + 2) f fd ["one", "other"] (spLk K d)
  | 0 => step_law_alike T_law_alike (never fun vs H Q E h => absurd h.1 (by omega)) T kd
  | d + 1 => step_law_alike T_law_alike ((ok_law_alike T_law_alike T kd d).imp fun vs H Q E h => h.2) T kd
end

section
variable {P : Program} {w : World} {K : PySem.W.Frag} {mg : Str → Option Value} {base : Heap}
noncomputable abbrev s_law_truths : Stmt := top 23
theorem sc_law_truths : FnScope ["r"] ["r"] (defScope s_law_truths) := ⟨rfl, rfl, rfl, by decide +kernel, rfl, by decide +kernel, by decide +kernel⟩
theorem gl_law_truths_isinstance : (defScope s_law_truths).names.lookup ("isinstance" : Str) = some NameKind.globalImplicit := by decide +kernel
theorem gl_law_truths_tuple : (defScope s_law_truths).names.lookup ("tuple" : Str) = some NameKind.globalImplicit := by decide +kernel
theorem nn_law_truths_tuple : ("tuple" : Str) ≠ "__name__" := by decide +kernel
theorem db_law_truths_tuple : (("tuple" : Str) == ("__debug__" : Str)) = false := by decide +kernel
theorem vo_law_truths_r : VarOk (defScope s_law_truths) "r" := by decide +kernel
theorem nn_law_truths_isinstance : ("isinstance" : Str) ≠ "__name__" := by decide +kernel
theorem db_law_truths_isinstance : (("isinstance" : Str) == ("__debug__" : Str)) = false := by decide +kernel
theorem db_law_truths__law_truths : (("_law_truths" : Str) == ("__debug__" : Str)) = false := by decide +kernel
theorem step_law_truths {d : Nat} {f : Addr} {fd : FuncData} (T_law_truths : FnT K mg "_law_truths" s_law_truths ["r"] f fd) (G_law_truths : FnOk P w K mg base CX0 (d + 1) f fd ["r"] (fun vs H Q E => 0 < d ∧ sp2Tr K (d - 1) vs H Q E)) (T : Blt mg) (kd : Kinds K) :
    FnOk P w K mg base CX0 (d + 2) f fd ["r"] (sp2Tr K d) := by
  refine T_law_truths.F.okQ sc_law_truths (fun vs H Q E h => ?_) (fun cdv A outer s H vs Q E hr h => ?_)
  · obtain ⟨v, t, rfl, _⟩ := h
    rfl
  obtain ⟨v, t, rfl, ht, n1, pl, hd, q⟩ := h
  refine ⟨_, (qss_cons (qs_if (qt_not (qt_val (qe_callB qc_isi gl_law_truths_isinstance T.b_isinstance bt_isinstance (qa_N (qe_var 0 vo_law_truths_r) (qa_N (qe_bltn (v := .ty "tuple") gl_law_truths_tuple T.b_tuple bt_tuple rfl nn_law_truths_tuple db_law_truths_tuple) qa_nil)) nn_law_truths_isinstance db_law_truths_isinstance))) (qss_one (qs_ret (qe_var 0 vo_law_truths_r))) qss_nil)
    (qss_cons (qs_if (qt_w (qw_or (qt_cmp (qop_eqD hr.units) (qe_var 0 vo_law_truths_r) (qe_tup (qa_C qe_str (qa_C qe_int qa_nil))) (nomarkQ _)) (qw_or1 (qt_cmp (qop_eqD hr.units) (qe_var 0 vo_law_truths_r) (qe_tup (qa_C qe_str (qa_C qe_int qa_nil))) (nomarkQ _))))) (qss_one (qs_ret (qe_tup (qa_C qe_str (qa_K (qe_cmp qop_eq (qe_ix qix_tup (qe_var 0 vo_law_truths_r) qe_int) qe_int (nomarkQ _)) qa_nil))))) qss_nil)
    (qss_one (qs_ret (qe_callTy qc_tuple_of gl_law_truths_tuple T.b_tuple bt_tuple (qa_M (qe_comp rfl (n := 1) (fr := []) (N := ["part"]) (cs_mk (scX := defScope s_law_truths) (NX := ["r"]) rfl rfl (by decide +kernel)) (qi_tup (qe_var 0 vo_law_truths_r)) (fun _ _ _ _ _ => (qgx (i := 0) (show List.Nodup (α := Str) ["part"] by decide) (locC (by decide +kernel)))) (fun _ _ _ _ _ => qi_nil) (fun _ _ _ _ _ => (qe_call (G_law_truths.mono (by omega)) hr (glC (by decide +kernel)) T_law_truths.m T_law_truths.F.kp T_law_truths.b .nil pass0 (qa_N (qe_var 0 (VarC.ok (by decide +kernel))) qa_nil) db_law_truths__law_truths))) qa_nil) nn_law_truths_tuple db_law_truths_tuple))))), ?_⟩
  have h1 := ht.ty
  have h2 := ht.isi kd (c := "tuple") (by simp [tys])
  have ht2 := ht
  cases ht2 with
  | @tup a vs ts ea ha =>
    have ct : subT (tyTh (.tup ts)) "tuple" = true := rfl
    rw [ct] at h2
    obtain ⟨d, rfl⟩ : ∃ e, d = e + 1 := by
      cases d with
      | zero => exact absurd n1 (by simp [NiT])
      | succ d => exact ⟨d, rfl⟩
    obtain ⟨m1, m2⟩ : ts.length ≤ 1000 ∧ ∀ t ∈ ts, NiT d t := id n1
    have sh := n1.shaped (by omega)
    walk_at "vs"
    intro p1 hp1
    have S1 := same_new (.tup [.str "number", .int 0]) hp1
    have e1 : upd H p1 (.tup [.str "number", .int 0]) p1 = some (.tup [.str "number", .int 0]) := upd_same
    generalize upd H p1 (.tup [.str "number", .int 0]) = H1 at *
    refine ⟨_, _, (ht.same S1).datV n1, .tup (SqT.of e1) (.cons (.str _) (.cons (.int _) .nil)), sh, shaped_num 0, ?_⟩
    have two : ∀ j : Int, PyData.eqv (thD (.tup ts)) (.tuple [.str "number", .int j]) = true → ts = [.str "number", .int j] ∧ vs = [.str "number", .int j] := fun j h => by
      have e := num_of pl h
      have e2 : ts = [.str "number", .int j] := by simpa using e
      refine ⟨e2, ?_⟩
      rw [e2] at ha
      cases ha with
      | cons x y => cases x; cases y with
        | cons x y => cases x; cases y; rfl
    have ea1 := S1 _ _ ea
    cases hE : PyData.eqv (thD (.tup ts)) (.tuple [.str "number", .int 0]) with
    | true =>
      obtain ⟨rfl, rfl⟩ := two 0 hE
      walk_at "vs"
      intro p2 hp2
      have S2 := same_new (.tup [.str "number", .bl (decide (V.int 0 = V.int 1))]) hp2
      exact q _ (.tup [.str "number", .bl (decide (V.int 0 = V.int 1))]) _ (S1.trans S2) (.tup upd_same (.cons (.str _) (.cons (.bl _) .nil))) (ni_num (.inl rfl))
    | false =>
      walk_at "vs"
      intro p2 hp2
      have S2 := S1.trans (same_new (.tup [.str "number", .int 1]) hp2)
      have e2 : upd H1 p2 (.tup [.str "number", .int 1]) p2 = some (.tup [.str "number", .int 1]) := upd_same
      generalize upd H1 p2 (.tup [.str "number", .int 1]) = H2 at *
      have ea2 := S2 _ _ ea
      refine ⟨_, _, (ht.same S2).datV n1, .tup (SqT.of e2) (.cons (.str _) (.cons (.int _) .nil)), sh, shaped_num 1, ?_⟩
      cases hF : PyData.eqv (thD (.tup ts)) (.tuple [.str "number", .int 1]) with
      | true =>
        obtain ⟨rfl, rfl⟩ := two 1 hF
        walk_at "vs"
        intro p3 hp3
        have S3 := same_new (.tup [.str "number", .bl (decide (V.int 1 = V.int 1))]) hp3
        exact q _ (.tup [.str "number", .bl (decide (V.int 1 = V.int 1))]) _ (S2.trans S3) (.tup upd_same (.cons (.str _) (.cons (.bl _) .nil))) (ni_num (.inl rfl))
      | false =>
        walk_at "vs"
        intro D hD
        have pls : ∀ t ∈ ts, PlT t := by cases pl; assumption
        have S20 := S2
        refine comp_tup (xs := vs) (fun i σ' H' => (∃ t, σ' = [t]) ∧ ∃ (ws : List V) (us : List Th), H' D = some (.lst ws) ∧ ws.length = i ∧ IsThs K H' ws us ∧ (∀ u ∈ us, NiT d u) ∧ Same H2 H') ?_ ?_ ?_ ?_
        · exact ⟨⟨none, rfl⟩, [], [], upd_same, rfl, .nil, by simp, same_new _ hD⟩
        · intro i σ' H' hi hP
          obtain ⟨_, ws, us, _, _, _, _, S3⟩ := hP
          exact SqT.of (S3 _ _ ea2)
        · intro i x σ' H' hx hP
          obtain ⟨⟨t, rfl⟩, ws, us, eD, wl, hI, hN, S3⟩ := hP
          obtain ⟨i1, y1⟩ := ha.at hx
          have y2 := y1.same (S2.trans S3)
          have z1 := m2 _ (List.getElem_mem i1)
          have z2 := pls _ (List.getElem_mem i1)
          walk_at "vs"
          intro v' t' H5 S5 hI' hN'
          have hN' : NiT d t' := hN'
          have eD5 := S5 _ _ eD
          have tp : Tups H5 (upd H5 D (.lst (ws ++ [v']))) := fun y zs e => (upd_ne (fun w => by rw [w, eD5] at e; cases e)).trans e
          have hN2 : ∀ u ∈ us ++ [t'], NiT d u := fun u hu => by
            rcases List.mem_append.mp hu with z | z
            · exact hN u z
            · have : u = t' := by simpa using z
              rw [this]; exact hN'
          have l2 := ha.length
          have hiv := (List.getElem?_eq_some_iff.mp hx).1
          refine ⟨ws, eD5, small1000 (by omega), ⟨_, rfl⟩, ws ++ [v'], us ++ [t'], upd_same, by simp [wl], ((hI.same S5).snoc hI').tupsN tp hN2, hN2, same_updN _ hD (S3.trans S5)⟩
        · intro σ' H' hP
          obtain ⟨⟨t, rfl⟩, ws, us, eD, wl, hI, hN, S3⟩ := hP
          walk_at "vs"
          intro l hl
          have S4 := same_new (.tup ws) hl
          have l1 := hI.length
          have l2 := ha.length
          exact q _ (.tup us) _ ((S2.trans S3).trans S4) (.tup upd_same (hI.same S4)) ⟨by omega, hN⟩
  | non => walk_at "vs"; exact q _ _ _ (Same.refl _) ht n1
  | bl b => walk_at "vs"; exact q _ _ _ (Same.refl _) ht n1
  | int i => walk_at "vs"; exact q _ _ _ (Same.refl _) ht n1
  | str x => walk_at "vs"; exact q _ _ _ (Same.refl _) ht n1
  | oth h hT k => exact absurd n1 (by cases d <;> simp [NiT])
theorem ok_law_truths {f : Addr} {fd : FuncData} (T_law_truths : FnT K mg "_law_truths" s_law_truths ["r"] f fd) (T : Blt mg) (kd : Kinds K) : ∀ d, FnOk P w K mg base CX0 (d + 2) f fd ["r"] (sp2Tr K d)
  | 0 => step_law_truths T_law_truths (never fun vs H Q E h => absurd h.1 (by omega)) T kd
  | d + 1 => step_law_truths T_law_truths ((ok_law_truths T_law_truths T kd d).imp fun vs H Q E h => h.2) T kd
end

section
variable {P : Program} {w : World} {K : PySem.W.Frag} {mg : Str → Option Value} {base : Heap}
theorem two_of {H H1 : Hp} {p l D : Addr} {c : Nat} {ws : List V} {Q : VK} (S : Same H H1) (hp : PoolAt H1 p c) (hc : c ≤ 50000) (el : H1 l = some (.lst ws)) (w1 : 1 ≤ ws.length) (w2 : ws.length ≤ 100) (hn : ∀ v ∈ ws, Nic K H1 v) (hD : H1 D = none)
    (q : ∀ l ws ts H', But [p] H H' → PoolAt H' p (c + 2) → H' l = some (.lst ws) → ws.length = 2 → IsThs K H' ws ts → (∀ t ∈ ts, NiT 12 t) → Q (.ref l) H') :
    CompW (Itr 0 (Int.toNat 2)) (gName 0) tTrue (tOp (rIxL K) (tVar 1) (tCall spTake [] E0 (tCons (tVar 2) (tCons (tCB (fun xs H Q => ∃ p ys, xs = [V.ref p] ∧ (SqL K H p ys ∨ SqT K H p ys) ∧ Q (V.int ↑ys.length) H) (tCons (tVar 1) tNil)) tNil)))) D
      [none, some (.ref l), some (.ref p)] (upd H1 D (.lst [])) Q := by
  have nD : D ∉ [p] := fun z => hp.ne hD (by simpa using z)
  have nDp : D ≠ p := by simpa using nD
  have nlp : l ∉ [p] := fun z => by
    obtain ⟨r, m, k, e, _⟩ := id hp
    have z : l = p := by simpa using z
    rw [z, e] at el; cases el
  refine comp_range (fun i σ' H' => (∃ t, σ' = [t, some (.ref l), some (.ref p)]) ∧ ∃ us : List V, H' D = some (.lst us) ∧ us.length = i ∧ (∀ u ∈ us, u ∈ ws) ∧ But [p] H1 H' ∧ PoolAt H' p (c + i)) ?_ ?_ ?_
  · exact ⟨⟨none, rfl⟩, [], upd_same, rfl, by simp, But.of_same (same_new _ hD), hp.same (same_new _ hD)⟩
  · intro i σ' H' hi hP
    obtain ⟨⟨t, rfl⟩, us, e, et, hu, hb, hpl⟩ := hP
    have el' := hb _ _ nlp el
    have hi2 : i < 2 := hi
    have hc' : c + i ≤ 100000 := by omega
    have hlg : ((ws.length : Nat) : Int).natAbs.log2 < 9000 := by
      rw [Int.natAbs_natCast]
      exact Nat.lt_of_le_of_lt (Nat.log2_le_self _) (by omega)
    walk_at "vs"
    intro n6 H6 n60 n61 b6 pl6
    have hb6 := hb.trans b6
    have e6 := b6 _ _ nD e
    have el6 := b6 _ _ nlp el'
    obtain ⟨x, hx, hxm⟩ : ∃ x, atI ws n6 = some x ∧ x ∈ ws := by
      obtain ⟨j, rfl⟩ := Int.eq_ofNat_of_zero_le n60
      have hj : j < ws.length := by omega
      exact ⟨ws[j], atI_nat (List.getElem?_eq_getElem hj), List.getElem_mem hj⟩
    have hz : us.length < sizeLine := small1000 (by omega)
    walk_at "vs"
    refine ⟨⟨_, rfl⟩, us ++ [x], upd_same, by simp [et], fun u hu' => ?_, hb6.upd _ hD, pl6.keep (But.set _ (by simp)) (S := [D]) (by simpa using Ne.symm nDp)⟩
    rcases List.mem_append.mp hu' with z | z
    · exact hu u z
    · have : u = x := by simpa using z
      rw [this]; exact hxm
  · intro σ' H' hP
    obtain ⟨_, us, e, et, hu, hb, hpl⟩ := hP
    have tp := hp.tups hb
    obtain ⟨ts, h1, h2⟩ := nics (K := K) (H := H1) (ws := us) fun v hv => hn v (hu v hv)
    have hS : But [p] H H' := fun b o hb' e' => hb b o hb' (S b o e')
    exact q D us ts H' hS hpl e et (h1.tupsN tp h2) h2
noncomputable abbrev s_law_others : Stmt := top 22
theorem sc_law_others : FnScope ["pool", "due", "other", "some", "word", "k", "number", "now"] ["pool", "due", "other"] (defScope s_law_others) := ⟨rfl, rfl, rfl, by decide +kernel, rfl, by decide +kernel, by decide +kernel⟩
theorem lo_law_others_some : Loc (defScope s_law_others) "some" := by decide +kernel
theorem vo_law_others_other : VarOk (defScope s_law_others) "other" := by decide +kernel
theorem vo_law_others_due : VarOk (defScope s_law_others) "due" := by decide +kernel
theorem lo_law_others_now : Loc (defScope s_law_others) "now" := by decide +kernel
theorem lo_law_others_number : Loc (defScope s_law_others) "number" := by decide +kernel
theorem lo_law_others_k : Loc (defScope s_law_others) "k" := by decide +kernel
theorem lo_law_others_word : Loc (defScope s_law_others) "word" := by decide +kernel
theorem vo_law_others_some : VarOk (defScope s_law_others) "some" := by decide +kernel
theorem vo_law_others_now : VarOk (defScope s_law_others) "now" := by decide +kernel
theorem vo_law_others_number : VarOk (defScope s_law_others) "number" := by decide +kernel
theorem vo_law_others_k : VarOk (defScope s_law_others) "k" := by decide +kernel
theorem vo_law_others_word : VarOk (defScope s_law_others) "word" := by decide +kernel
theorem gl_law_others__law_truths : (defScope s_law_others).names.lookup ("_law_truths" : Str) = some NameKind.globalImplicit := by decide +kernel
theorem db_law_others__law_truths : (("_law_truths" : Str) == ("__debug__" : Str)) = false := by decide +kernel
theorem gl_law_others_range : (defScope s_law_others).names.lookup ("range" : Str) = some NameKind.globalImplicit := by decide +kernel
theorem nn_law_others_len : ("len" : Str) ≠ "__name__" := by decide +kernel
theorem db_law_others_len : (("len" : Str) == ("__debug__" : Str)) = false := by decide +kernel
theorem db_law_others__law_take : (("_law_take" : Str) == ("__debug__" : Str)) = false := by decide +kernel
theorem ok_law_others {f g0 g1 : Addr} {fd gd0 gd1 : FuncData} (T_law_others : FnT K mg "_law_others" s_law_others ["pool", "due", "other"] f fd) (T_law_take : FnT K mg "_law_take" s_law_take ["pool", "many"] g0 gd0) (G_law_take : FnOk P w K mg base CX0 1 g0 gd0 ["pool", "many"] spTake)
    (T_law_truths : FnT K mg "_law_truths" s_law_truths ["r"] g1 gd1) (G_law_truths : FnOk P w K mg base CX0 12 g1 gd1 ["r"] (sp2Tr K 10)) (T : Blt mg) : FnOk P w K mg base CX0 13 f fd ["pool", "due", "other"] (sp2Ot K) := by
  refine T_law_others.F.okQ sc_law_others (fun vs H Q E h => ?_) (fun cdv A outer s H vs Q E hr h => ?_)
  · obtain ⟨p, du, oa, c, pd, t0, rfl, _⟩ := h
    rfl
  obtain ⟨p, du, oa, c, pd, t0, rfl, hp, hc, hpd, hoa, n0, q⟩ := h
  refine ⟨_, (qss_cons (qs_set (i := 3) sc_law_others.nd rfl lo_law_others_some (qe_lst (qa_T (qe_tup (qa_C qe_str qa_nil)) (qa_T (qe_tup (qa_C qe_str qa_nil)) (qa_T (qe_tup (qa_C qe_str qa_nil)) (qa_T (qe_tup qa_nil) (qa_B (qe_op qop_catT2 (qe_var 1 vo_law_others_due) (qe_slice qsl_tup2 (qe_var 1 vo_law_others_due) qo_none (qo_some qe_int))) (qa_S (qe_slice qsl_tup2 (qe_var 1 vo_law_others_due) qo_none (qo_some (qe_un qun_neg qe_int))) (qa_S (qe_slice qsl_tup2 (qe_var 1 vo_law_others_due) (qo_some qe_int) qo_none) (qa_N (qe_var 2 vo_law_others_other) (qa_T (qe_tup (qa_C qe_str qa_nil)) (qa_T (qe_tup (qa_C qe_str (qa_C qe_int qa_nil))) qa_nil))))))))))))
    (qss_cons (qs_if (qt_cmp qop_eq (qe_ix qix_tup (qe_var 1 vo_law_others_due) qe_int) qe_str (nomarkQ _)) (qss_cons (qs_asg (qe_var 1 vo_law_others_due) (qg_tup rfl (qgs_cons (qg_name (i := 4) sc_law_others.nd rfl lo_law_others_word) (qgs_cons (qg_name (i := 5) sc_law_others.nd rfl lo_law_others_k) (qgs_cons (qg_name (i := 6) sc_law_others.nd rfl lo_law_others_number) (qgs_cons (qg_name (i := 7) sc_law_others.nd rfl lo_law_others_now) qgs_nil))))))
    (qss_cons (qs_set (i := 3) sc_law_others.nd rfl lo_law_others_some (qe_op qop_cat (qe_var 3 vo_law_others_some) (qe_lst (qa_T (qe_tup (qa_N (qe_var 4 vo_law_others_word) (qa_B (qe_op qop_add (qe_var 5 vo_law_others_k) qe_int) (qa_N (qe_var 6 vo_law_others_number) (qa_N (qe_var 7 vo_law_others_now) qa_nil))))) (qa_T (qe_tup (qa_N (qe_var 4 vo_law_others_word) (qa_B (qe_op qop_sub (qe_var 5 vo_law_others_k) qe_int) (qa_N (qe_var 6 vo_law_others_number) (qa_N (qe_var 7 vo_law_others_now) qa_nil))))) (qa_T (qe_tup (qa_N (qe_var 4 vo_law_others_word) (qa_N (qe_var 5 vo_law_others_k) (qa_B (qe_op qop_add (qe_var 6 vo_law_others_number) qe_int) (qa_N (qe_var 7 vo_law_others_now) qa_nil))))) qa_nil))))))
    (qss_cons (qs_set (i := 3) sc_law_others.nd rfl lo_law_others_some (qe_op qop_cat (qe_var 3 vo_law_others_some) (qe_lst (qa_T (qe_tup (qa_N (qe_var 4 vo_law_others_word) (qa_N (qe_var 5 vo_law_others_k) (qa_N (qe_var 6 vo_law_others_number) (qa_B (qe_op qop_sub (qe_var 7 vo_law_others_now) qe_int) qa_nil))))) (qa_T (qe_tup (qa_N (qe_var 4 vo_law_others_word) (qa_N (qe_var 5 vo_law_others_k) (qa_N (qe_var 7 vo_law_others_now) (qa_N (qe_var 6 vo_law_others_number) qa_nil))))) (qa_T (qe_tup (qa_N (qe_var 4 vo_law_others_word) (qa_N (qe_var 5 vo_law_others_k) (qa_N (qe_var 6 vo_law_others_number) (qa_C qe_non qa_nil))))) (qa_T (qe_tup (qa_N (qe_var 4 vo_law_others_word) (qa_N (qe_var 5 vo_law_others_k) (qa_N (qe_var 7 vo_law_others_now) (qa_N (qe_var 7 vo_law_others_now) qa_nil))))) qa_nil)))))))
    (qss_one (qs_set (i := 3) sc_law_others.nd rfl lo_law_others_some (qe_op qop_cat (qe_var 3 vo_law_others_some) (qe_lst (qa_T (qe_tup (qa_N (qe_var 4 vo_law_others_word) (qa_K (qe_cmp qop_eq (qe_var 5 vo_law_others_k) qe_int (nomarkQ _)) (qa_N (qe_var 6 vo_law_others_number) (qa_N (qe_var 7 vo_law_others_now) qa_nil))))) (qa_T (qe_tup (qa_C qe_str (qa_N (qe_var 6 vo_law_others_number) (qa_N (qe_var 7 vo_law_others_now) qa_nil)))) (qa_T (qe_tup (qa_N (qe_var 4 vo_law_others_word) (qa_N (qe_var 5 vo_law_others_k) (qa_N (qe_var 6 vo_law_others_number) qa_nil)))) qa_nil)))))))))) qss_nil)
    (qss_cons (qs_if (qt_cmp qop_eq (qe_ix qix_tup (qe_var 1 vo_law_others_due) qe_int) qe_str (nomarkQ _)) (qss_cons (qs_set (i := 3) sc_law_others.nd rfl lo_law_others_some (qe_lst (qa_T (qe_tup (qa_S (qe_ix qix_tup (qe_var 1 vo_law_others_due) qe_int) (qa_S (qe_ix qix_tup (qe_var 1 vo_law_others_due) qe_int) (qa_S (qe_ix qix_tup (qe_var 1 vo_law_others_due) qe_int) qa_nil)))) (qa_T (qe_tup (qa_S (qe_ix qix_tup (qe_var 1 vo_law_others_due) qe_int) (qa_S (qe_ix qix_tup (qe_var 1 vo_law_others_due) qe_int) (qa_S (qe_ix qix_tup (qe_var 1 vo_law_others_due) qe_int) qa_nil)))) (qa_T (qe_tup (qa_S (qe_ix qix_tup (qe_var 1 vo_law_others_due) qe_int) (qa_S (qe_ix qix_tup (qe_var 1 vo_law_others_due) qe_int) (qa_S (qe_ix qix_tup (qe_var 1 vo_law_others_due) qe_int) qa_nil)))) (qa_S (qe_slice qsl_tup2 (qe_var 1 vo_law_others_due) qo_none (qo_some qe_int)) qa_nil))))))
    (qss_one (qs_set (i := 3) sc_law_others.nd rfl lo_law_others_some (qe_op qop_cat (qe_var 3 vo_law_others_some) (qe_lst (qa_T (qe_tup (qa_S (qe_ix qix_tup (qe_var 1 vo_law_others_due) qe_int) (qa_F (qe_call (G_law_truths.mono (by omega)) hr gl_law_others__law_truths T_law_truths.m T_law_truths.F.kp T_law_truths.b .nil pass0 (qa_S (qe_ix qix_tup (qe_var 1 vo_law_others_due) qe_int) qa_nil) db_law_others__law_truths) (qa_S (qe_ix qix_tup (qe_var 1 vo_law_others_due) qe_int) qa_nil)))) (qa_T (qe_tup (qa_S (qe_ix qix_tup (qe_var 1 vo_law_others_due) qe_int) (qa_S (qe_ix qix_tup (qe_var 1 vo_law_others_due) qe_int) (qa_F (qe_call (G_law_truths.mono (by omega)) hr gl_law_others__law_truths T_law_truths.m T_law_truths.F.kp T_law_truths.b .nil pass0 (qa_S (qe_ix qix_tup (qe_var 1 vo_law_others_due) qe_int) qa_nil) db_law_others__law_truths) qa_nil)))) (qa_N (qe_var 2 vo_law_others_other) qa_nil)))))))) qss_nil)
    (qss_one (qs_ret (qe_comp rfl (n := 1) (fr := [3, 0]) (N := ["k", "some", "pool"]) (cs_mk (scX := defScope s_law_others) (NX := ["pool", "due", "other", "some", "word", "k", "number", "now"]) rfl rfl (by decide +kernel)) (qi_range1 gl_law_others_range T.b_range (qa_C qe_int qa_nil)) (fun _ _ _ _ _ => (qgx (i := 0) (show List.Nodup (α := Str) ["k", "some", "pool"] by decide) (locC (by decide +kernel)))) (fun _ _ _ _ _ => qi_nil) (fun _ _ _ _ _ => (qe_ix (qix_listK (K := K) rfl) (qe_var 1 (VarC.ok (by decide +kernel))) (qe_call (G_law_take.mono (by omega)) hr (glC (by decide +kernel)) T_law_take.m T_law_take.F.kp T_law_take.b .nil pass0 (qa_N (qe_var 2 (VarC.ok (by decide +kernel))) (qa_F (qe_callB (qc_len_seqK (K := K) rfl) (glC (by decide +kernel)) T.b_len bt_len (qa_N (qe_var 1 (VarC.ok (by decide +kernel))) qa_nil) nn_law_others_len db_law_others_len) qa_nil)) db_law_others__law_take))))))))), ?_⟩
  obtain ⟨xs, ts, ed, hx, hn, hl4, hne⟩ : ∃ xs ts, H du = some (.tup xs) ∧ IsThs K H xs ts ∧ (∀ t ∈ ts, NiT 11 t) ∧ xs.length ≤ 4 ∧ xs ≠ [] := by
    have h := hpd.niT
    have h2 : ∀ ts, pd.toTh = .tup ts → ∀ t ∈ ts, NiT 11 t := fun ts e t ht => by
      rw [e] at h
      exact (h.2 t ht).mono (show 9 ≤ 11 by omega)
    cases hpd with
    | given e => exact ⟨_, _, e, .cons (.str _) .nil, h2 _ rfl, by simp, by simp⟩
    | new e => exact ⟨_, _, e, .cons (.str _) .nil, h2 _ rfl, by simp, by simp⟩
    | rcp e hp hq _ _ _ _ => exact ⟨_, _, e, .cons (.str _) (.cons hp.isTh (.cons hq.isTh .nil)), h2 _ rfl, by simp, by simp⟩
    | rd e => exact ⟨_, _, e, .cons (.str _) (.cons (.int _) (.cons (.int _) (.cons (.int _) .nil))), h2 _ rfl, by simp, by simp⟩
    | alike e => exact ⟨_, _, e, .cons (.str _) .nil, h2 _ rfl, by simp, by simp⟩
--ROWS
  have Sa : Same H H := Same.refl _
  have ed0 := ed
  walk_at "vs"
  intro p1 h1
  have S1 := same_new (.tup [.str "given"]) h1
  have e1 : upd H p1 (.tup [.str "given"]) p1 = some (.tup [.str "given"]) := upd_same
  generalize upd H p1 (.tup [.str "given"]) = H1 at *
  replace ed := S1 _ _ ed
  replace hx := hx.same S1
  replace hoa := hoa.same S1
  replace Sa := Sa.trans S1
  have N1 : Nic K H1 (.ref p1) := nic_w e1 (by decide +kernel)
  walk_at "vs"
  intro p2 h2
  have S2 := same_new (.tup [.str "new"]) h2
  have e2 : upd H1 p2 (.tup [.str "new"]) p2 = some (.tup [.str "new"]) := upd_same
  generalize upd H1 p2 (.tup [.str "new"]) = H2 at *
  replace N1 := N1.same S2
  replace ed := S2 _ _ ed
  replace hx := hx.same S2
  replace hoa := hoa.same S2
  replace Sa := Sa.trans S2
  have N2 : Nic K H2 (.ref p2) := nic_w e2 (by decide +kernel)
  walk_at "vs"
  intro p3 h3
  have S3 := same_new (.tup [.str "alike"]) h3
  have e3 : upd H2 p3 (.tup [.str "alike"]) p3 = some (.tup [.str "alike"]) := upd_same
  generalize upd H2 p3 (.tup [.str "alike"]) = H3 at *
  replace N1 := N1.same S3
  replace N2 := N2.same S3
  replace ed := S3 _ _ ed
  replace hx := hx.same S3
  replace hoa := hoa.same S3
  replace Sa := Sa.trans S3
  have N3 : Nic K H3 (.ref p3) := nic_w e3 (by decide +kernel)
  walk_at "vs"
  intro p4 h4
  have S4 := same_new (.tup []) h4
  have e4 : upd H3 p4 (.tup []) p4 = some (.tup []) := upd_same
  generalize upd H3 p4 (.tup []) = H4 at *
  replace N1 := N1.same S4
  replace N2 := N2.same S4
  replace N3 := N3.same S4
  replace ed := S4 _ _ ed
  replace hx := hx.same S4
  replace hoa := hoa.same S4
  replace Sa := Sa.trans S4
  have N4 : Nic K H4 (.ref p4) := nic_of e4 .nil (by simp) (by simp)
  walk_at "vs"
  intro p5 H5 S5 e5
  replace N1 := N1.same S5
  replace N2 := N2.same S5
  replace N3 := N3.same S5
  replace N4 := N4.same S5
  replace ed := S5 _ _ ed
  replace hx := hx.same S5
  replace hoa := hoa.same S5
  replace Sa := Sa.trans S5
  walk_at "vs"
  refine ⟨Nat.le_of_lt (small1000 (by have := cutV_length xs none (some 1); omega)), ?_⟩
  intro p6 H6 S6 e6
  replace N1 := N1.same S6
  replace N2 := N2.same S6
  replace N3 := N3.same S6
  replace N4 := N4.same S6
  replace ed := S6 _ _ ed
  replace hx := hx.same S6
  replace hoa := hoa.same S6
  replace Sa := Sa.trans S6
  have N6 : Nic K H6 (.ref p6) := nic_cat e6 hx hl4 hn
  walk_at "vs"
  intro p7 H7 S7 e7
  replace N1 := N1.same S7
  replace N2 := N2.same S7
  replace N3 := N3.same S7
  replace N4 := N4.same S7
  replace N6 := N6.same S7
  replace ed := S7 _ _ ed
  replace hx := hx.same S7
  replace hoa := hoa.same S7
  replace Sa := Sa.trans S7
  have N7 : Nic K H7 (.ref p7) := nic_cut e7 hx hl4 hn
  walk_at "vs"
  intro p8 H8 S8 e8
  replace N1 := N1.same S8
  replace N2 := N2.same S8
  replace N3 := N3.same S8
  replace N4 := N4.same S8
  replace N6 := N6.same S8
  replace N7 := N7.same S8
  replace ed := S8 _ _ ed
  replace hx := hx.same S8
  replace hoa := hoa.same S8
  replace Sa := Sa.trans S8
  have N8 : Nic K H8 (.ref p8) := nic_cut e8 hx hl4 hn
  walk_at "vs"
  intro p9 h9
  have S9 := same_new (.tup [.str "made"]) h9
  have e9 : upd H8 p9 (.tup [.str "made"]) p9 = some (.tup [.str "made"]) := upd_same
  generalize upd H8 p9 (.tup [.str "made"]) = H9 at *
  replace N1 := N1.same S9
  replace N2 := N2.same S9
  replace N3 := N3.same S9
  replace N4 := N4.same S9
  replace N6 := N6.same S9
  replace N7 := N7.same S9
  replace N8 := N8.same S9
  replace ed := S9 _ _ ed
  replace hx := hx.same S9
  replace hoa := hoa.same S9
  replace Sa := Sa.trans S9
  have N9 : Nic K H9 (.ref p9) := nic_w e9 (by decide +kernel)
  walk_at "vs"
  intro p10 h10
  have S10 := same_new (.tup [.str "alike", .int 0]) h10
  have e10 : upd H9 p10 (.tup [.str "alike", .int 0]) p10 = some (.tup [.str "alike", .int 0]) := upd_same
  generalize upd H9 p10 (.tup [.str "alike", .int 0]) = H10 at *
  replace N1 := N1.same S10
  replace N2 := N2.same S10
  replace N3 := N3.same S10
  replace N4 := N4.same S10
  replace N6 := N6.same S10
  replace N7 := N7.same S10
  replace N8 := N8.same S10
  replace N9 := N9.same S10
  replace ed := S10 _ _ ed
  replace hx := hx.same S10
  replace hoa := hoa.same S10
  replace Sa := Sa.trans S10
  have N10 : Nic K H10 (.ref p10) := nic_of e10 (.cons (.str _) (.cons (.int _) .nil)) (by simp) (fun t ht => by rcases (show t = .str "alike" ∨ t = .int 0 by simpa using ht) with rfl | rfl <;> first | exact niT_int | exact niT_str (by decide +kernel))
  walk_at "vs"
  intro l1 hl1
  have S11 := same_new (.lst [.ref p1, .ref p2, .ref p3, .ref p4, .ref p6, .ref p7, .ref p8, .ref oa, .ref p9, .ref p10]) hl1
  have el : upd H10 l1 (.lst [.ref p1, .ref p2, .ref p3, .ref p4, .ref p6, .ref p7, .ref p8, .ref oa, .ref p9, .ref p10]) l1 = some (.lst [.ref p1, .ref p2, .ref p3, .ref p4, .ref p6, .ref p7, .ref p8, .ref oa, .ref p9, .ref p10]) := upd_same
  generalize upd H10 l1 (.lst [.ref p1, .ref p2, .ref p3, .ref p4, .ref p6, .ref p7, .ref p8, .ref oa, .ref p9, .ref p10]) = H11 at *
  replace N1 := N1.same S11
  replace N2 := N2.same S11
  replace N3 := N3.same S11
  replace N4 := N4.same S11
  replace N6 := N6.same S11
  replace N7 := N7.same S11
  replace N8 := N8.same S11
  replace N9 := N9.same S11
  replace N10 := N10.same S11
  replace ed := S11 _ _ ed
  replace hx := hx.same S11
  replace hoa := hoa.same S11
  replace Sa := Sa.trans S11
  have Na : Nic K H11 (.ref oa) := ⟨_, hoa, n0⟩
  have hws : ∀ v ∈ [V.ref p1, .ref p2, .ref p3, .ref p4, .ref p6, .ref p7, .ref p8, .ref oa, .ref p9, .ref p10], Nic K H11 v := by
    intro v hv
    simp only [List.mem_cons, List.not_mem_nil, or_false] at hv
    rcases hv with rfl | rfl | rfl | rfl | rfl | rfl | rfl | rfl | rfl | rfl <;> assumption
  cases hpd with
  | given e =>
    obtain rfl : xs = [.str "given"] := by rw [ed0] at e; simpa using e
    walk_at "vs"
    intro D hD
    exact two_of Sa (hp.same Sa) hc el (by simp) (by simp) hws hD q
  | new e =>
    obtain rfl : xs = [.str "new"] := by rw [ed0] at e; simpa using e
    walk_at "vs"
    intro D hD
    exact two_of Sa (hp.same Sa) hc el (by simp) (by simp) hws hD q
  | alike e =>
    obtain rfl : xs = [.str "alike"] := by rw [ed0] at e; simpa using e
    walk_at "vs"
    intro D hD
    exact two_of Sa (hp.same Sa) hc el (by simp) (by simp) hws hD q
  | @rd kk nn mm e =>
    obtain rfl : xs = [.str "read", .int kk, .int nn, .int mm] := by rw [ed0] at e; simpa using e
    walk_at "vs"
    intro p12 h12
    have S12 := same_new (.tup [.str "read", .int (kk + 1), .int nn, .int mm]) h12
    have e12 : upd H11 p12 (.tup [.str "read", .int (kk + 1), .int nn, .int mm]) p12 = some (.tup [.str "read", .int (kk + 1), .int nn, .int mm]) := upd_same
    generalize upd H11 p12 (.tup [.str "read", .int (kk + 1), .int nn, .int mm]) = H12 at *
    replace N1 := N1.same S12
    replace N2 := N2.same S12
    replace N3 := N3.same S12
    replace N4 := N4.same S12
    replace N6 := N6.same S12
    replace N7 := N7.same S12
    replace N8 := N8.same S12
    replace N9 := N9.same S12
    replace N10 := N10.same S12
    replace Na := Na.same S12
    replace ed := S12 _ _ ed
    replace hx := hx.same S12
    replace hoa := hoa.same S12
    replace Sa := Sa.trans S12
    have N12 : Nic K H12 (.ref p12) := nic_four e12
    replace el := S12 _ _ el
    walk_at "vs"
    intro p13 h13
    have S13 := same_new (.tup [.str "read", .int (kk - 1), .int nn, .int mm]) h13
    have e13 : upd H12 p13 (.tup [.str "read", .int (kk - 1), .int nn, .int mm]) p13 = some (.tup [.str "read", .int (kk - 1), .int nn, .int mm]) := upd_same
    generalize upd H12 p13 (.tup [.str "read", .int (kk - 1), .int nn, .int mm]) = H13 at *
    replace N1 := N1.same S13
    replace N2 := N2.same S13
    replace N3 := N3.same S13
    replace N4 := N4.same S13
    replace N6 := N6.same S13
    replace N7 := N7.same S13
    replace N8 := N8.same S13
    replace N9 := N9.same S13
    replace N10 := N10.same S13
    replace Na := Na.same S13
    replace N12 := N12.same S13
    replace ed := S13 _ _ ed
    replace hx := hx.same S13
    replace hoa := hoa.same S13
    replace Sa := Sa.trans S13
    have N13 : Nic K H13 (.ref p13) := nic_four e13
    replace el := S13 _ _ el
    walk_at "vs"
    intro p14 h14
    have S14 := same_new (.tup [.str "read", .int kk, .int (nn + 1), .int mm]) h14
    have e14 : upd H13 p14 (.tup [.str "read", .int kk, .int (nn + 1), .int mm]) p14 = some (.tup [.str "read", .int kk, .int (nn + 1), .int mm]) := upd_same
    generalize upd H13 p14 (.tup [.str "read", .int kk, .int (nn + 1), .int mm]) = H14 at *
    replace N1 := N1.same S14
    replace N2 := N2.same S14
    replace N3 := N3.same S14
    replace N4 := N4.same S14
    replace N6 := N6.same S14
    replace N7 := N7.same S14
    replace N8 := N8.same S14
    replace N9 := N9.same S14
    replace N10 := N10.same S14
    replace Na := Na.same S14
    replace N12 := N12.same S14
    replace N13 := N13.same S14
    replace ed := S14 _ _ ed
    replace hx := hx.same S14
    replace hoa := hoa.same S14
    replace Sa := Sa.trans S14
    have N14 : Nic K H14 (.ref p14) := nic_four e14
    replace el := S14 _ _ el
    walk_at "vs"
    intro m15 h15
    have S15 := same_new (.lst [.ref p12, .ref p13, .ref p14]) h15
    have em : upd H14 m15 (.lst [.ref p12, .ref p13, .ref p14]) m15 = some (.lst [.ref p12, .ref p13, .ref p14]) := upd_same
    generalize upd H14 m15 (.lst [.ref p12, .ref p13, .ref p14]) = H15 at *
    replace N1 := N1.same S15
    replace N2 := N2.same S15
    replace N3 := N3.same S15
    replace N4 := N4.same S15
    replace N6 := N6.same S15
    replace N7 := N7.same S15
    replace N8 := N8.same S15
    replace N9 := N9.same S15
    replace N10 := N10.same S15
    replace Na := Na.same S15
    replace N12 := N12.same S15
    replace N13 := N13.same S15
    replace N14 := N14.same S15
    replace ed := S15 _ _ ed
    replace hx := hx.same S15
    replace hoa := hoa.same S15
    replace Sa := Sa.trans S15
    replace el := S15 _ _ el
    walk_at "vs"
    intro m16 h16
    have S16 := same_new (.lst ([.ref p1, .ref p2, .ref p3, .ref p4, .ref p6, .ref p7, .ref p8, .ref oa, .ref p9, .ref p10] ++ [.ref p12, .ref p13, .ref p14])) h16
    replace el : upd H15 m16 (.lst ([.ref p1, .ref p2, .ref p3, .ref p4, .ref p6, .ref p7, .ref p8, .ref oa, .ref p9, .ref p10] ++ [.ref p12, .ref p13, .ref p14])) m16 = some (.lst ([.ref p1, .ref p2, .ref p3, .ref p4, .ref p6, .ref p7, .ref p8, .ref oa, .ref p9, .ref p10] ++ [.ref p12, .ref p13, .ref p14])) := upd_same
    generalize upd H15 m16 (.lst ([.ref p1, .ref p2, .ref p3, .ref p4, .ref p6, .ref p7, .ref p8, .ref oa, .ref p9, .ref p10] ++ [.ref p12, .ref p13, .ref p14])) = H16 at *
    replace N1 := N1.same S16
    replace N2 := N2.same S16
    replace N3 := N3.same S16
    replace N4 := N4.same S16
    replace N6 := N6.same S16
    replace N7 := N7.same S16
    replace N8 := N8.same S16
    replace N9 := N9.same S16
    replace N10 := N10.same S16
    replace Na := Na.same S16
    replace N12 := N12.same S16
    replace N13 := N13.same S16
    replace N14 := N14.same S16
    replace ed := S16 _ _ ed
    replace hx := hx.same S16
    replace hoa := hoa.same S16
    replace Sa := Sa.trans S16
    simp only [List.cons_append, List.nil_append] at el
    walk_at "vs"
    intro p17 h17
    have S17 := same_new (.tup [.str "read", .int kk, .int nn, .int (mm - 1)]) h17
    have e17 : upd H16 p17 (.tup [.str "read", .int kk, .int nn, .int (mm - 1)]) p17 = some (.tup [.str "read", .int kk, .int nn, .int (mm - 1)]) := upd_same
    generalize upd H16 p17 (.tup [.str "read", .int kk, .int nn, .int (mm - 1)]) = H17 at *
    replace N1 := N1.same S17
    replace N2 := N2.same S17
    replace N3 := N3.same S17
    replace N4 := N4.same S17
    replace N6 := N6.same S17
    replace N7 := N7.same S17
    replace N8 := N8.same S17
    replace N9 := N9.same S17
    replace N10 := N10.same S17
    replace Na := Na.same S17
    replace N12 := N12.same S17
    replace N13 := N13.same S17
    replace N14 := N14.same S17
    replace ed := S17 _ _ ed
    replace hx := hx.same S17
    replace hoa := hoa.same S17
    replace Sa := Sa.trans S17
    have N17 : Nic K H17 (.ref p17) := nic_four e17
    replace el := S17 _ _ el
    walk_at "vs"
    intro p18 h18
    have S18 := same_new (.tup [.str "read", .int kk, .int mm, .int nn]) h18
    have e18 : upd H17 p18 (.tup [.str "read", .int kk, .int mm, .int nn]) p18 = some (.tup [.str "read", .int kk, .int mm, .int nn]) := upd_same
    generalize upd H17 p18 (.tup [.str "read", .int kk, .int mm, .int nn]) = H18 at *
    replace N1 := N1.same S18
    replace N2 := N2.same S18
    replace N3 := N3.same S18
    replace N4 := N4.same S18
    replace N6 := N6.same S18
    replace N7 := N7.same S18
    replace N8 := N8.same S18
    replace N9 := N9.same S18
    replace N10 := N10.same S18
    replace Na := Na.same S18
    replace N12 := N12.same S18
    replace N13 := N13.same S18
    replace N14 := N14.same S18
    replace N17 := N17.same S18
    replace ed := S18 _ _ ed
    replace hx := hx.same S18
    replace hoa := hoa.same S18
    replace Sa := Sa.trans S18
    have N18 : Nic K H18 (.ref p18) := nic_four e18
    replace el := S18 _ _ el
    walk_at "vs"
    intro p19 h19
    have S19 := same_new (.tup [.str "read", .int kk, .int nn, .non]) h19
    have e19 : upd H18 p19 (.tup [.str "read", .int kk, .int nn, .non]) p19 = some (.tup [.str "read", .int kk, .int nn, .non]) := upd_same
    generalize upd H18 p19 (.tup [.str "read", .int kk, .int nn, .non]) = H19 at *
    replace N1 := N1.same S19
    replace N2 := N2.same S19
    replace N3 := N3.same S19
    replace N4 := N4.same S19
    replace N6 := N6.same S19
    replace N7 := N7.same S19
    replace N8 := N8.same S19
    replace N9 := N9.same S19
    replace N10 := N10.same S19
    replace Na := Na.same S19
    replace N12 := N12.same S19
    replace N13 := N13.same S19
    replace N14 := N14.same S19
    replace N17 := N17.same S19
    replace N18 := N18.same S19
    replace ed := S19 _ _ ed
    replace hx := hx.same S19
    replace hoa := hoa.same S19
    replace Sa := Sa.trans S19
    have N19 : Nic K H19 (.ref p19) := nic_of (ts := [.str "read", .int kk, .int nn, .non]) e19 (by repeat' constructor) (by simp) (by intro t ht; simp only [List.mem_cons, List.not_mem_nil, or_false] at ht; rcases ht with rfl | rfl | rfl | rfl <;> first | exact niT_int | exact niT_non | exact niT_bl | exact niT_str (by decide +kernel))
    replace el := S19 _ _ el
    walk_at "vs"
    intro p20 h20
    have S20 := same_new (.tup [.str "read", .int kk, .int mm, .int mm]) h20
    have e20 : upd H19 p20 (.tup [.str "read", .int kk, .int mm, .int mm]) p20 = some (.tup [.str "read", .int kk, .int mm, .int mm]) := upd_same
    generalize upd H19 p20 (.tup [.str "read", .int kk, .int mm, .int mm]) = H20 at *
    replace N1 := N1.same S20
    replace N2 := N2.same S20
    replace N3 := N3.same S20
    replace N4 := N4.same S20
    replace N6 := N6.same S20
    replace N7 := N7.same S20
    replace N8 := N8.same S20
    replace N9 := N9.same S20
    replace N10 := N10.same S20
    replace Na := Na.same S20
    replace N12 := N12.same S20
    replace N13 := N13.same S20
    replace N14 := N14.same S20
    replace N17 := N17.same S20
    replace N18 := N18.same S20
    replace N19 := N19.same S20
    replace ed := S20 _ _ ed
    replace hx := hx.same S20
    replace hoa := hoa.same S20
    replace Sa := Sa.trans S20
    have N20 : Nic K H20 (.ref p20) := nic_four e20
    replace el := S20 _ _ el
    walk_at "vs"
    intro m21 h21
    have S21 := same_new (.lst [.ref p17, .ref p18, .ref p19, .ref p20]) h21
    have em : upd H20 m21 (.lst [.ref p17, .ref p18, .ref p19, .ref p20]) m21 = some (.lst [.ref p17, .ref p18, .ref p19, .ref p20]) := upd_same
    generalize upd H20 m21 (.lst [.ref p17, .ref p18, .ref p19, .ref p20]) = H21 at *
    replace N1 := N1.same S21
    replace N2 := N2.same S21
    replace N3 := N3.same S21
    replace N4 := N4.same S21
    replace N6 := N6.same S21
    replace N7 := N7.same S21
    replace N8 := N8.same S21
    replace N9 := N9.same S21
    replace N10 := N10.same S21
    replace Na := Na.same S21
    replace N12 := N12.same S21
    replace N13 := N13.same S21
    replace N14 := N14.same S21
    replace N17 := N17.same S21
    replace N18 := N18.same S21
    replace N19 := N19.same S21
    replace N20 := N20.same S21
    replace ed := S21 _ _ ed
    replace hx := hx.same S21
    replace hoa := hoa.same S21
    replace Sa := Sa.trans S21
    replace el := S21 _ _ el
    walk_at "vs"
    intro m22 h22
    have S22 := same_new (.lst ([.ref p1, .ref p2, .ref p3, .ref p4, .ref p6, .ref p7, .ref p8, .ref oa, .ref p9, .ref p10, .ref p12, .ref p13, .ref p14] ++ [.ref p17, .ref p18, .ref p19, .ref p20])) h22
    replace el : upd H21 m22 (.lst ([.ref p1, .ref p2, .ref p3, .ref p4, .ref p6, .ref p7, .ref p8, .ref oa, .ref p9, .ref p10, .ref p12, .ref p13, .ref p14] ++ [.ref p17, .ref p18, .ref p19, .ref p20])) m22 = some (.lst ([.ref p1, .ref p2, .ref p3, .ref p4, .ref p6, .ref p7, .ref p8, .ref oa, .ref p9, .ref p10, .ref p12, .ref p13, .ref p14] ++ [.ref p17, .ref p18, .ref p19, .ref p20])) := upd_same
    generalize upd H21 m22 (.lst ([.ref p1, .ref p2, .ref p3, .ref p4, .ref p6, .ref p7, .ref p8, .ref oa, .ref p9, .ref p10, .ref p12, .ref p13, .ref p14] ++ [.ref p17, .ref p18, .ref p19, .ref p20])) = H22 at *
    replace N1 := N1.same S22
    replace N2 := N2.same S22
    replace N3 := N3.same S22
    replace N4 := N4.same S22
    replace N6 := N6.same S22
    replace N7 := N7.same S22
    replace N8 := N8.same S22
    replace N9 := N9.same S22
    replace N10 := N10.same S22
    replace Na := Na.same S22
    replace N12 := N12.same S22
    replace N13 := N13.same S22
    replace N14 := N14.same S22
    replace N17 := N17.same S22
    replace N18 := N18.same S22
    replace N19 := N19.same S22
    replace N20 := N20.same S22
    replace ed := S22 _ _ ed
    replace hx := hx.same S22
    replace hoa := hoa.same S22
    replace Sa := Sa.trans S22
    simp only [List.cons_append, List.nil_append] at el
    walk_at "vs"
    intro p23 h23
    have S23 := same_new (.tup [.str "read", .bl (decide (V.int kk = V.int 1)), .int nn, .int mm]) h23
    have e23 : upd H22 p23 (.tup [.str "read", .bl (decide (V.int kk = V.int 1)), .int nn, .int mm]) p23 = some (.tup [.str "read", .bl (decide (V.int kk = V.int 1)), .int nn, .int mm]) := upd_same
    generalize upd H22 p23 (.tup [.str "read", .bl (decide (V.int kk = V.int 1)), .int nn, .int mm]) = H23 at *
    replace N1 := N1.same S23
    replace N2 := N2.same S23
    replace N3 := N3.same S23
    replace N4 := N4.same S23
    replace N6 := N6.same S23
    replace N7 := N7.same S23
    replace N8 := N8.same S23
    replace N9 := N9.same S23
    replace N10 := N10.same S23
    replace Na := Na.same S23
    replace N12 := N12.same S23
    replace N13 := N13.same S23
    replace N14 := N14.same S23
    replace N17 := N17.same S23
    replace N18 := N18.same S23
    replace N19 := N19.same S23
    replace N20 := N20.same S23
    replace ed := S23 _ _ ed
    replace hx := hx.same S23
    replace hoa := hoa.same S23
    replace Sa := Sa.trans S23
    have N23 : Nic K H23 (.ref p23) := nic_of (ts := [.str "read", .bl (decide (V.int kk = V.int 1)), .int nn, .int mm]) e23 (by repeat' constructor) (by simp) (by intro t ht; simp only [List.mem_cons, List.not_mem_nil, or_false] at ht; rcases ht with rfl | rfl | rfl | rfl <;> first | exact niT_int | exact niT_non | exact niT_bl | exact niT_str (by decide +kernel))
    replace el := S23 _ _ el
    walk_at "vs"
    intro p24 h24
    have S24 := same_new (.tup [.str "recipe", .int nn, .int mm]) h24
    have e24 : upd H23 p24 (.tup [.str "recipe", .int nn, .int mm]) p24 = some (.tup [.str "recipe", .int nn, .int mm]) := upd_same
    generalize upd H23 p24 (.tup [.str "recipe", .int nn, .int mm]) = H24 at *
    replace N1 := N1.same S24
    replace N2 := N2.same S24
    replace N3 := N3.same S24
    replace N4 := N4.same S24
    replace N6 := N6.same S24
    replace N7 := N7.same S24
    replace N8 := N8.same S24
    replace N9 := N9.same S24
    replace N10 := N10.same S24
    replace Na := Na.same S24
    replace N12 := N12.same S24
    replace N13 := N13.same S24
    replace N14 := N14.same S24
    replace N17 := N17.same S24
    replace N18 := N18.same S24
    replace N19 := N19.same S24
    replace N20 := N20.same S24
    replace N23 := N23.same S24
    replace ed := S24 _ _ ed
    replace hx := hx.same S24
    replace hoa := hoa.same S24
    replace Sa := Sa.trans S24
    have N24 : Nic K H24 (.ref p24) := nic_of (ts := [.str "recipe", .int nn, .int mm]) e24 (by repeat' constructor) (by simp) (by intro t ht; simp only [List.mem_cons, List.not_mem_nil, or_false] at ht; rcases ht with rfl | rfl | rfl <;> first | exact niT_int | exact niT_non | exact niT_bl | exact niT_str (by decide +kernel))
    replace el := S24 _ _ el
    walk_at "vs"
    intro p25 h25
    have S25 := same_new (.tup [.str "read", .int kk, .int nn]) h25
    have e25 : upd H24 p25 (.tup [.str "read", .int kk, .int nn]) p25 = some (.tup [.str "read", .int kk, .int nn]) := upd_same
    generalize upd H24 p25 (.tup [.str "read", .int kk, .int nn]) = H25 at *
    replace N1 := N1.same S25
    replace N2 := N2.same S25
    replace N3 := N3.same S25
    replace N4 := N4.same S25
    replace N6 := N6.same S25
    replace N7 := N7.same S25
    replace N8 := N8.same S25
    replace N9 := N9.same S25
    replace N10 := N10.same S25
    replace Na := Na.same S25
    replace N12 := N12.same S25
    replace N13 := N13.same S25
    replace N14 := N14.same S25
    replace N17 := N17.same S25
    replace N18 := N18.same S25
    replace N19 := N19.same S25
    replace N20 := N20.same S25
    replace N23 := N23.same S25
    replace N24 := N24.same S25
    replace ed := S25 _ _ ed
    replace hx := hx.same S25
    replace hoa := hoa.same S25
    replace Sa := Sa.trans S25
    have N25 : Nic K H25 (.ref p25) := nic_of (ts := [.str "read", .int kk, .int nn]) e25 (by repeat' constructor) (by simp) (by intro t ht; simp only [List.mem_cons, List.not_mem_nil, or_false] at ht; rcases ht with rfl | rfl | rfl <;> first | exact niT_int | exact niT_non | exact niT_bl | exact niT_str (by decide +kernel))
    replace el := S25 _ _ el
    walk_at "vs"
    intro m26 h26
    have S26 := same_new (.lst [.ref p23, .ref p24, .ref p25]) h26
    have em : upd H25 m26 (.lst [.ref p23, .ref p24, .ref p25]) m26 = some (.lst [.ref p23, .ref p24, .ref p25]) := upd_same
    generalize upd H25 m26 (.lst [.ref p23, .ref p24, .ref p25]) = H26 at *
    replace N1 := N1.same S26
    replace N2 := N2.same S26
    replace N3 := N3.same S26
    replace N4 := N4.same S26
    replace N6 := N6.same S26
    replace N7 := N7.same S26
    replace N8 := N8.same S26
    replace N9 := N9.same S26
    replace N10 := N10.same S26
    replace Na := Na.same S26
    replace N12 := N12.same S26
    replace N13 := N13.same S26
    replace N14 := N14.same S26
    replace N17 := N17.same S26
    replace N18 := N18.same S26
    replace N19 := N19.same S26
    replace N20 := N20.same S26
    replace N23 := N23.same S26
    replace N24 := N24.same S26
    replace N25 := N25.same S26
    replace ed := S26 _ _ ed
    replace hx := hx.same S26
    replace hoa := hoa.same S26
    replace Sa := Sa.trans S26
    replace el := S26 _ _ el
    walk_at "vs"
    intro m27 h27
    have S27 := same_new (.lst ([.ref p1, .ref p2, .ref p3, .ref p4, .ref p6, .ref p7, .ref p8, .ref oa, .ref p9, .ref p10, .ref p12, .ref p13, .ref p14, .ref p17, .ref p18, .ref p19, .ref p20] ++ [.ref p23, .ref p24, .ref p25])) h27
    replace el : upd H26 m27 (.lst ([.ref p1, .ref p2, .ref p3, .ref p4, .ref p6, .ref p7, .ref p8, .ref oa, .ref p9, .ref p10, .ref p12, .ref p13, .ref p14, .ref p17, .ref p18, .ref p19, .ref p20] ++ [.ref p23, .ref p24, .ref p25])) m27 = some (.lst ([.ref p1, .ref p2, .ref p3, .ref p4, .ref p6, .ref p7, .ref p8, .ref oa, .ref p9, .ref p10, .ref p12, .ref p13, .ref p14, .ref p17, .ref p18, .ref p19, .ref p20] ++ [.ref p23, .ref p24, .ref p25])) := upd_same
    generalize upd H26 m27 (.lst ([.ref p1, .ref p2, .ref p3, .ref p4, .ref p6, .ref p7, .ref p8, .ref oa, .ref p9, .ref p10, .ref p12, .ref p13, .ref p14, .ref p17, .ref p18, .ref p19, .ref p20] ++ [.ref p23, .ref p24, .ref p25])) = H27 at *
    replace N1 := N1.same S27
    replace N2 := N2.same S27
    replace N3 := N3.same S27
    replace N4 := N4.same S27
    replace N6 := N6.same S27
    replace N7 := N7.same S27
    replace N8 := N8.same S27
    replace N9 := N9.same S27
    replace N10 := N10.same S27
    replace Na := Na.same S27
    replace N12 := N12.same S27
    replace N13 := N13.same S27
    replace N14 := N14.same S27
    replace N17 := N17.same S27
    replace N18 := N18.same S27
    replace N19 := N19.same S27
    replace N20 := N20.same S27
    replace N23 := N23.same S27
    replace N24 := N24.same S27
    replace N25 := N25.same S27
    replace ed := S27 _ _ ed
    replace hx := hx.same S27
    replace hoa := hoa.same S27
    replace Sa := Sa.trans S27
    simp only [List.cons_append, List.nil_append] at el
    walk_at "vs"
    have hws : ∀ v ∈ [(.ref p1 : V), .ref p2, .ref p3, .ref p4, .ref p6, .ref p7, .ref p8, .ref oa, .ref p9, .ref p10, .ref p12, .ref p13, .ref p14, .ref p17, .ref p18, .ref p19, .ref p20, .ref p23, .ref p24, .ref p25], Nic K H27 v := by
      intro v hv
      simp only [List.mem_cons, List.not_mem_nil, or_false] at hv
      rcases hv with rfl | rfl | rfl | rfl | rfl | rfl | rfl | rfl | rfl | rfl | rfl | rfl | rfl | rfl | rfl | rfl | rfl | rfl | rfl | rfl <;> assumption
    intro D hD
    exact two_of Sa (hp.same Sa) hc el (by simp) (by simp) hws hD q
  | @rcp r s pa pb e ra rb gr gs dr ds =>
    obtain rfl : xs = [.str "recipe", .ref pa, .ref pb] := by rw [ed0] at e; simpa using e
    have TA : IsTh K H11 (.ref pa) r.toTh := (ra.same Sa).isTh
    have TB : IsTh K H11 (.ref pb) s.toTh := (rb.same Sa).isTh
    have nA : NiT 10 r.toTh := (r.niT gr).mono (show r.depth + 1 ≤ 10 by omega)
    have nB : NiT 10 s.toTh := (s.niT gs).mono (show s.depth + 1 ≤ 10 by omega)
    have plA : PlT r.toTh := r.plT
    have plB : PlT s.toTh := s.plT
    walk_at "vs"
    intro p12 h12
    have S12 := same_new (.tup [.str "recipe", .ref pb, .ref pa]) h12
    have e12 : upd H11 p12 (.tup [.str "recipe", .ref pb, .ref pa]) p12 = some (.tup [.str "recipe", .ref pb, .ref pa]) := upd_same
    generalize upd H11 p12 (.tup [.str "recipe", .ref pb, .ref pa]) = H12 at *
    replace N1 := N1.same S12
    replace N2 := N2.same S12
    replace N3 := N3.same S12
    replace N4 := N4.same S12
    replace N6 := N6.same S12
    replace N7 := N7.same S12
    replace N8 := N8.same S12
    replace N9 := N9.same S12
    replace N10 := N10.same S12
    replace Na := Na.same S12
    replace TA := TA.same S12
    replace TB := TB.same S12
    replace ed := S12 _ _ ed
    replace hx := hx.same S12
    replace hoa := hoa.same S12
    replace Sa := Sa.trans S12
    have N12 : Nic K H12 (.ref p12) := nic_three e12 TB nB TA nA
    replace el := S12 _ _ el
    walk_at "vs"
    intro p13 h13
    have S13 := same_new (.tup [.str "recipe", .ref pa, .ref pa]) h13
    have e13 : upd H12 p13 (.tup [.str "recipe", .ref pa, .ref pa]) p13 = some (.tup [.str "recipe", .ref pa, .ref pa]) := upd_same
    generalize upd H12 p13 (.tup [.str "recipe", .ref pa, .ref pa]) = H13 at *
    replace N1 := N1.same S13
    replace N2 := N2.same S13
    replace N3 := N3.same S13
    replace N4 := N4.same S13
    replace N6 := N6.same S13
    replace N7 := N7.same S13
    replace N8 := N8.same S13
    replace N9 := N9.same S13
    replace N10 := N10.same S13
    replace Na := Na.same S13
    replace TA := TA.same S13
    replace TB := TB.same S13
    replace N12 := N12.same S13
    replace ed := S13 _ _ ed
    replace hx := hx.same S13
    replace hoa := hoa.same S13
    replace Sa := Sa.trans S13
    have N13 : Nic K H13 (.ref p13) := nic_three e13 TA nA TA nA
    replace el := S13 _ _ el
    walk_at "vs"
    intro p14 h14
    have S14 := same_new (.tup [.str "recipe", .ref pb, .ref pb]) h14
    have e14 : upd H13 p14 (.tup [.str "recipe", .ref pb, .ref pb]) p14 = some (.tup [.str "recipe", .ref pb, .ref pb]) := upd_same
    generalize upd H13 p14 (.tup [.str "recipe", .ref pb, .ref pb]) = H14 at *
    replace N1 := N1.same S14
    replace N2 := N2.same S14
    replace N3 := N3.same S14
    replace N4 := N4.same S14
    replace N6 := N6.same S14
    replace N7 := N7.same S14
    replace N8 := N8.same S14
    replace N9 := N9.same S14
    replace N10 := N10.same S14
    replace Na := Na.same S14
    replace TA := TA.same S14
    replace TB := TB.same S14
    replace N12 := N12.same S14
    replace N13 := N13.same S14
    replace ed := S14 _ _ ed
    replace hx := hx.same S14
    replace hoa := hoa.same S14
    replace Sa := Sa.trans S14
    have N14 : Nic K H14 (.ref p14) := nic_three e14 TB nB TB nB
    replace el := S14 _ _ el
    walk_at "vs"
    intro p15 H15 S15 e15
    replace N1 := N1.same S15
    replace N2 := N2.same S15
    replace N3 := N3.same S15
    replace N4 := N4.same S15
    replace N6 := N6.same S15
    replace N7 := N7.same S15
    replace N8 := N8.same S15
    replace N9 := N9.same S15
    replace N10 := N10.same S15
    replace Na := Na.same S15
    replace TA := TA.same S15
    replace TB := TB.same S15
    replace N12 := N12.same S15
    replace N13 := N13.same S15
    replace N14 := N14.same S15
    replace ed := S15 _ _ ed
    replace hx := hx.same S15
    replace hoa := hoa.same S15
    replace Sa := Sa.trans S15
    have N15 : Nic K H15 (.ref p15) := nic_cut e15 hx hl4 hn
    replace el := S15 _ _ el
    walk_at "vs"
    intro l2 h16
    have S16 := same_new (.lst [.ref p12, .ref p13, .ref p14, .ref p15]) h16
    replace el : upd H15 l2 (.lst [.ref p12, .ref p13, .ref p14, .ref p15]) l2 = some (.lst [.ref p12, .ref p13, .ref p14, .ref p15]) := upd_same
    generalize upd H15 l2 (.lst [.ref p12, .ref p13, .ref p14, .ref p15]) = H16 at *
    replace N1 := N1.same S16
    replace N2 := N2.same S16
    replace N3 := N3.same S16
    replace N4 := N4.same S16
    replace N6 := N6.same S16
    replace N7 := N7.same S16
    replace N8 := N8.same S16
    replace N9 := N9.same S16
    replace N10 := N10.same S16
    replace Na := Na.same S16
    replace TA := TA.same S16
    replace TB := TB.same S16
    replace N12 := N12.same S16
    replace N13 := N13.same S16
    replace N14 := N14.same S16
    replace N15 := N15.same S16
    replace ed := S16 _ _ ed
    replace hx := hx.same S16
    replace hoa := hoa.same S16
    replace Sa := Sa.trans S16
    walk_at "vs"
    intro va ta H17 S17 ia na
    replace N1 := N1.same S17
    replace N2 := N2.same S17
    replace N3 := N3.same S17
    replace N4 := N4.same S17
    replace N6 := N6.same S17
    replace N7 := N7.same S17
    replace N8 := N8.same S17
    replace N9 := N9.same S17
    replace N10 := N10.same S17
    replace Na := Na.same S17
    replace TA := TA.same S17
    replace TB := TB.same S17
    replace N12 := N12.same S17
    replace N13 := N13.same S17
    replace N14 := N14.same S17
    replace N15 := N15.same S17
    replace ed := S17 _ _ ed
    replace hx := hx.same S17
    replace hoa := hoa.same S17
    replace Sa := Sa.trans S17
    replace el := S17 _ _ el
    walk_at "vs"
    intro p18 h18
    have S18 := same_new (.tup [.str "recipe", va, .ref pb]) h18
    have e18 : upd H17 p18 (.tup [.str "recipe", va, .ref pb]) p18 = some (.tup [.str "recipe", va, .ref pb]) := upd_same
    generalize upd H17 p18 (.tup [.str "recipe", va, .ref pb]) = H18 at *
    replace N1 := N1.same S18
    replace N2 := N2.same S18
    replace N3 := N3.same S18
    replace N4 := N4.same S18
    replace N6 := N6.same S18
    replace N7 := N7.same S18
    replace N8 := N8.same S18
    replace N9 := N9.same S18
    replace N10 := N10.same S18
    replace Na := Na.same S18
    replace TA := TA.same S18
    replace TB := TB.same S18
    replace N12 := N12.same S18
    replace N13 := N13.same S18
    replace N14 := N14.same S18
    replace N15 := N15.same S18
    replace ia := ia.same S18
    replace ed := S18 _ _ ed
    replace hx := hx.same S18
    replace hoa := hoa.same S18
    replace Sa := Sa.trans S18
    have N18 : Nic K H18 (.ref p18) := nic_three e18 ia na TB nB
    replace el := S18 _ _ el
    walk_at "vs"
    intro vb tb H19 S19 ib nb
    replace N1 := N1.same S19
    replace N2 := N2.same S19
    replace N3 := N3.same S19
    replace N4 := N4.same S19
    replace N6 := N6.same S19
    replace N7 := N7.same S19
    replace N8 := N8.same S19
    replace N9 := N9.same S19
    replace N10 := N10.same S19
    replace Na := Na.same S19
    replace TA := TA.same S19
    replace TB := TB.same S19
    replace N12 := N12.same S19
    replace N13 := N13.same S19
    replace N14 := N14.same S19
    replace N15 := N15.same S19
    replace ia := ia.same S19
    replace N18 := N18.same S19
    replace ed := S19 _ _ ed
    replace hx := hx.same S19
    replace hoa := hoa.same S19
    replace Sa := Sa.trans S19
    replace el := S19 _ _ el
    walk_at "vs"
    intro p20 h20
    have S20 := same_new (.tup [.str "recipe", .ref pa, vb]) h20
    have e20 : upd H19 p20 (.tup [.str "recipe", .ref pa, vb]) p20 = some (.tup [.str "recipe", .ref pa, vb]) := upd_same
    generalize upd H19 p20 (.tup [.str "recipe", .ref pa, vb]) = H20 at *
    replace N1 := N1.same S20
    replace N2 := N2.same S20
    replace N3 := N3.same S20
    replace N4 := N4.same S20
    replace N6 := N6.same S20
    replace N7 := N7.same S20
    replace N8 := N8.same S20
    replace N9 := N9.same S20
    replace N10 := N10.same S20
    replace Na := Na.same S20
    replace TA := TA.same S20
    replace TB := TB.same S20
    replace N12 := N12.same S20
    replace N13 := N13.same S20
    replace N14 := N14.same S20
    replace N15 := N15.same S20
    replace ia := ia.same S20
    replace N18 := N18.same S20
    replace ib := ib.same S20
    replace ed := S20 _ _ ed
    replace hx := hx.same S20
    replace hoa := hoa.same S20
    replace Sa := Sa.trans S20
    have N20 : Nic K H20 (.ref p20) := nic_three e20 TA nA ib nb
    replace el := S20 _ _ el
    walk_at "vs"
    intro m21 h21
    have S21 := same_new (.lst [.ref p18, .ref p20, .ref oa]) h21
    have em : upd H20 m21 (.lst [.ref p18, .ref p20, .ref oa]) m21 = some (.lst [.ref p18, .ref p20, .ref oa]) := upd_same
    generalize upd H20 m21 (.lst [.ref p18, .ref p20, .ref oa]) = H21 at *
    replace N1 := N1.same S21
    replace N2 := N2.same S21
    replace N3 := N3.same S21
    replace N4 := N4.same S21
    replace N6 := N6.same S21
    replace N7 := N7.same S21
    replace N8 := N8.same S21
    replace N9 := N9.same S21
    replace N10 := N10.same S21
    replace Na := Na.same S21
    replace TA := TA.same S21
    replace TB := TB.same S21
    replace N12 := N12.same S21
    replace N13 := N13.same S21
    replace N14 := N14.same S21
    replace N15 := N15.same S21
    replace ia := ia.same S21
    replace N18 := N18.same S21
    replace ib := ib.same S21
    replace N20 := N20.same S21
    replace ed := S21 _ _ ed
    replace hx := hx.same S21
    replace hoa := hoa.same S21
    replace Sa := Sa.trans S21
    replace el := S21 _ _ el
    walk_at "vs"
    intro m22 h22
    have S22 := same_new (.lst ([.ref p12, .ref p13, .ref p14, .ref p15] ++ [.ref p18, .ref p20, .ref oa])) h22
    replace el : upd H21 m22 (.lst ([.ref p12, .ref p13, .ref p14, .ref p15] ++ [.ref p18, .ref p20, .ref oa])) m22 = some (.lst ([.ref p12, .ref p13, .ref p14, .ref p15] ++ [.ref p18, .ref p20, .ref oa])) := upd_same
    generalize upd H21 m22 (.lst ([.ref p12, .ref p13, .ref p14, .ref p15] ++ [.ref p18, .ref p20, .ref oa])) = H22 at *
    replace N1 := N1.same S22
    replace N2 := N2.same S22
    replace N3 := N3.same S22
    replace N4 := N4.same S22
    replace N6 := N6.same S22
    replace N7 := N7.same S22
    replace N8 := N8.same S22
    replace N9 := N9.same S22
    replace N10 := N10.same S22
    replace Na := Na.same S22
    replace TA := TA.same S22
    replace TB := TB.same S22
    replace N12 := N12.same S22
    replace N13 := N13.same S22
    replace N14 := N14.same S22
    replace N15 := N15.same S22
    replace ia := ia.same S22
    replace N18 := N18.same S22
    replace ib := ib.same S22
    replace N20 := N20.same S22
    replace ed := S22 _ _ ed
    replace hx := hx.same S22
    replace hoa := hoa.same S22
    replace Sa := Sa.trans S22
    simp only [List.cons_append, List.nil_append] at el
    walk_at "vs"
    have hws : ∀ v ∈ [(.ref p12 : V), .ref p13, .ref p14, .ref p15, .ref p18, .ref p20, .ref oa], Nic K H22 v := by
      intro v hv
      simp only [List.mem_cons, List.not_mem_nil, or_false] at hv
      rcases hv with rfl | rfl | rfl | rfl | rfl | rfl | rfl <;> assumption
    intro D hD
    exact two_of Sa (hp.same Sa) hc el (by simp) (by simp) hws hD q
--ENDROWS
end

section
variable {P : Program} {w : World} {K : PySem.W.Frag} {mg : Str → Option Value} {base : Heap}
noncomputable abbrev s_law : Stmt := top 25
theorem sc_law : FnScope ["script", "house", "records", "wishes", "worths", "handed", "pool", "other", "name", "due", "paper", "found", "names", "some"] ["script"] (defScope s_law) := ⟨rfl, rfl, rfl, by decide +kernel, rfl, by decide +kernel, by decide +kernel⟩
theorem gl_law__law_case : (defScope s_law).names.lookup ("_law_case" : Str) = some NameKind.globalImplicit := by decide +kernel
theorem vo_law_script : VarOk (defScope s_law) "script" := by decide +kernel
theorem db_law__law_case : (("_law_case" : Str) == ("__debug__" : Str)) = false := by decide +kernel
theorem lo_law_wishes : Loc (defScope s_law) "wishes" := by decide +kernel
theorem lo_law_records : Loc (defScope s_law) "records" := by decide +kernel
theorem lo_law_house : Loc (defScope s_law) "house" := by decide +kernel
theorem lo_law_worths : Loc (defScope s_law) "worths" := by decide +kernel
theorem gl_law__law_fresh : (defScope s_law).names.lookup ("_law_fresh" : Str) = some NameKind.globalImplicit := by decide +kernel
theorem vo_law_wishes : VarOk (defScope s_law) "wishes" := by decide +kernel
theorem vo_law_house : VarOk (defScope s_law) "house" := by decide +kernel
theorem db_law__law_fresh : (("_law_fresh" : Str) == ("__debug__" : Str)) = false := by decide +kernel
theorem lo_law_handed : Loc (defScope s_law) "handed" := by decide +kernel
theorem gl_law_dict : (defScope s_law).names.lookup ("dict" : Str) = some NameKind.globalImplicit := by decide +kernel
theorem vo_law_worths : VarOk (defScope s_law) "worths" := by decide +kernel
theorem nn_law_dict : ("dict" : Str) ≠ "__name__" := by decide +kernel
theorem db_law_dict : (("dict" : Str) == ("__debug__" : Str)) = false := by decide +kernel
theorem vo_law_records : VarOk (defScope s_law) "records" := by decide +kernel
theorem lo_law_pool : Loc (defScope s_law) "pool" := by decide +kernel
theorem gl_law__law_pool : (defScope s_law).names.lookup ("_law_pool" : Str) = some NameKind.globalImplicit := by decide +kernel
theorem db_law__law_pool : (("_law_pool" : Str) == ("__debug__" : Str)) = false := by decide +kernel
theorem lo_law_other : Loc (defScope s_law) "other" := by decide +kernel
theorem lo_law_name : Loc (defScope s_law) "name" := by decide +kernel
theorem lo_law_due : Loc (defScope s_law) "due" := by decide +kernel
theorem gl_law__law_paper : (defScope s_law).names.lookup ("_law_paper" : Str) = some NameKind.globalImplicit := by decide +kernel
theorem vo_law_name : VarOk (defScope s_law) "name" := by decide +kernel
theorem db_law__law_paper : (("_law_paper" : Str) == ("__debug__" : Str)) = false := by decide +kernel
theorem vo_law_due : VarOk (defScope s_law) "due" := by decide +kernel
theorem gl_law__law_others : (defScope s_law).names.lookup ("_law_others" : Str) = some NameKind.globalImplicit := by decide +kernel
theorem vo_law_other : VarOk (defScope s_law) "other" := by decide +kernel
theorem vo_law_pool : VarOk (defScope s_law) "pool" := by decide +kernel
theorem db_law__law_others : (("_law_others" : Str) == ("__debug__" : Str)) = false := by decide +kernel
theorem lo_law_paper : Loc (defScope s_law) "paper" := by decide +kernel
theorem lo_law_found : Loc (defScope s_law) "found" := by decide +kernel
theorem gl_law_paper_shows : (defScope s_law).names.lookup ("paper_shows" : Str) = some NameKind.globalImplicit := by decide +kernel
theorem vo_law_paper : VarOk (defScope s_law) "paper" := by decide +kernel
theorem vo_law_handed : VarOk (defScope s_law) "handed" := by decide +kernel
theorem db_law_paper_shows : (("paper_shows" : Str) == ("__debug__" : Str)) = false := by decide +kernel
theorem vo_law_found : VarOk (defScope s_law) "found" := by decide +kernel
theorem gl_law__law_alike : (defScope s_law).names.lookup ("_law_alike" : Str) = some NameKind.globalImplicit := by decide +kernel
theorem db_law__law_alike : (("_law_alike" : Str) == ("__debug__" : Str)) = false := by decide +kernel
theorem gl_law_isinstance : (defScope s_law).names.lookup ("isinstance" : Str) = some NameKind.globalImplicit := by decide +kernel
theorem gl_law_bool : (defScope s_law).names.lookup ("bool" : Str) = some NameKind.globalImplicit := by decide +kernel
theorem nn_law_bool : ("bool" : Str) ≠ "__name__" := by decide +kernel
theorem db_law_bool : (("bool" : Str) == ("__debug__" : Str)) = false := by decide +kernel
theorem nn_law_isinstance : ("isinstance" : Str) ≠ "__name__" := by decide +kernel
theorem db_law_isinstance : (("isinstance" : Str) == ("__debug__" : Str)) = false := by decide +kernel
theorem lo_law_names : Loc (defScope s_law) "names" := by decide +kernel
theorem gl_law_sorted : (defScope s_law).names.lookup ("sorted" : Str) = some NameKind.globalImplicit := by decide +kernel
theorem gl_law_list : (defScope s_law).names.lookup ("list" : Str) = some NameKind.globalImplicit := by decide +kernel
theorem nn_law_list : ("list" : Str) ≠ "__name__" := by decide +kernel
theorem db_law_list : (("list" : Str) == ("__debug__" : Str)) = false := by decide +kernel
theorem nn_law_sorted : ("sorted" : Str) ≠ "__name__" := by decide +kernel
theorem db_law_sorted : (("sorted" : Str) == ("__debug__" : Str)) = false := by decide +kernel
theorem vo_law_names : VarOk (defScope s_law) "names" := by decide +kernel
theorem lo_law_some : Loc (defScope s_law) "some" := by decide +kernel
theorem vo_law_some : VarOk (defScope s_law) "some" := by decide +kernel
theorem ok_law {f g1 g2 g3 g4 g5 g6 g7 : Addr} {fd gd1 gd2 gd3 gd4 gd5 gd6 gd7 : FuncData} (T_law : FnT K mg "law" s_law ["script"] f fd)
    (T_law_case : FnT K mg "_law_case" s_law_case ["script"] g1 gd1) (G_law_case : FnOk P w K mg base CX0 139 g1 gd1 ["script"] (sp3Ca K))
    (T_law_fresh : FnT K mg "_law_fresh" s_law_fresh ["house", "wishes"] g2 gd2) (G_law_fresh : FnOk P w K mg base CX0 138 g2 gd2 ["house", "wishes"] sp3Fr)
    (T_law_paper : FnT K mg "_law_paper" s_law_paper ["house", "records", "worths", "name"] g3 gd3) (G_law_paper : FnOk P w K mg base CX0 1 g3 gd3 ["house", "records", "worths", "name"] sp2Pa)
    (T_law_others : FnT K mg "_law_others" s_law_others ["pool", "due", "other"] g4 gd4) (G_law_others : FnOk P w K mg base CX0 13 g4 gd4 ["pool", "due", "other"] (sp2Ot K))
    (T_paper_shows : FnT K mg "paper_shows" s_paper_shows ["house", "records", "worths", "name", "paper"] g5 gd5) (G_paper_shows : FnOk P w K mg base CX0 14 g5 gd5 ["house", "records", "worths", "name", "paper"] (sp2Sh K))
    (T_law_alike : FnT K mg "_law_alike" s_law_alike ["one", "other"] g6 gd6) (G_law_alike : FnOk P w K mg base CX0 14 g6 gd6 ["one", "other"] (spLk K 12))
    (T_law_pool : FnT K mg "_law_pool" s_law_pool ["script", "k"] g7 gd7) (G_law_pool : FnOk P w K mg base CX0 2 g7 gd7 ["script", "k"] (spPool K))
    (T : Blt mg) : FnOk P w K mg base CX0 140 f fd ["script"] (spLaw K) := by
  refine T_law.F.okQ sc_law (fun vs H Q E h => ?_) (fun cdv A outer s H vs Q E hr h => ?_)
  · obtain ⟨a, ns, rfl, _⟩ := h
    rfl
  obtain ⟨a, zs, rfl, hS, h63, q⟩ := h
  refine ⟨_, (qss_cons (qs_asg (qe_call (G_law_case.mono (by omega)) hr gl_law__law_case T_law_case.m T_law_case.F.kp T_law_case.b .nil pass0 (qa_N (qe_var 0 vo_law_script) qa_nil) db_law__law_case) (qg_lst rfl (qgs_cons (qg_name (i := 1) sc_law.nd rfl lo_law_house) (qgs_cons (qg_name (i := 2) sc_law.nd rfl lo_law_records) (qgs_cons (qg_name (i := 3) sc_law.nd rfl lo_law_wishes) qgs_nil)))))
    (qss_cons (qs_set (i := 4) sc_law.nd rfl lo_law_worths (qe_ix qix_list (qe_call (G_law_fresh.mono (by omega)) hr gl_law__law_fresh T_law_fresh.m T_law_fresh.F.kp T_law_fresh.b .nil pass0 (qa_N (qe_var 1 vo_law_house) (qa_N (qe_var 3 vo_law_wishes) qa_nil)) db_law__law_fresh) qe_int))
    (qss_cons (qs_set (i := 5) sc_law.nd rfl lo_law_handed (qe_lst (qa_T (qe_tup (qa_F (qe_callTy qc_dictD gl_law_dict T.b_dict bt_dict (qa_S (qe_ix qix_tup (qe_var 1 vo_law_house) qe_int) qa_nil) nn_law_dict db_law_dict) (qa_F (qe_callTy qc_dictD gl_law_dict T.b_dict bt_dict (qa_S (qe_ix qix_tup (qe_var 1 vo_law_house) qe_int) qa_nil) nn_law_dict db_law_dict) qa_nil))) (qa_F (qe_callTy qc_dictD gl_law_dict T.b_dict bt_dict (qa_N (qe_var 2 vo_law_records) qa_nil) nn_law_dict db_law_dict) (qa_F (qe_callTy qc_dictD gl_law_dict T.b_dict bt_dict (qa_N (qe_var 4 vo_law_worths) qa_nil) nn_law_dict db_law_dict) qa_nil)))))
    (qss_cons (qs_set (i := 6) sc_law.nd rfl lo_law_pool (qe_call (G_law_pool.mono (by omega)) hr gl_law__law_pool T_law_pool.m T_law_pool.F.kp T_law_pool.b .nil pass0 (qa_N (qe_var 0 vo_law_script) (qa_C qe_int qa_nil)) db_law__law_pool))
    (qss_cons (qs_set (i := 7) sc_law.nd rfl lo_law_other (qe_tup (qa_C qe_str qa_nil)))
    (qss_cons (qs_for PassesOwn.never rfl (qi_dict (qe_var 4 vo_law_worths)) (qg_name (i := 8) sc_law.nd rfl lo_law_name) (qss_cons (qs_set (i := 9) sc_law.nd rfl lo_law_due (qe_call (G_law_paper.mono (by omega)) hr gl_law__law_paper T_law_paper.m T_law_paper.F.kp T_law_paper.b .nil pass0 (qa_N (qe_var 1 vo_law_house) (qa_N (qe_var 2 vo_law_records) (qa_N (qe_var 4 vo_law_worths) (qa_N (qe_var 8 vo_law_name) qa_nil)))) db_law__law_paper))
    (qss_cons (qs_for PassesOwn.never rfl (qi_list (qe_op qop_cat (qe_lst (qa_N (qe_var 9 vo_law_due) qa_nil)) (qe_call (G_law_others.mono (by omega)) hr gl_law__law_others T_law_others.m T_law_others.F.kp T_law_others.b .nil pass0 (qa_N (qe_var 6 vo_law_pool) (qa_N (qe_var 9 vo_law_due) (qa_N (qe_var 7 vo_law_other) qa_nil))) db_law__law_others))) (qg_name (i := 10) sc_law.nd rfl lo_law_paper) (qss_cons (qs_set (i := 11) sc_law.nd rfl lo_law_found (qe_call (G_paper_shows.mono (by omega)) hr gl_law_paper_shows T_paper_shows.m T_paper_shows.F.kp T_paper_shows.b .nil pass0 (qa_S (qe_ix qix_list (qe_var 5 vo_law_handed) qe_int) (qa_S (qe_ix qix_list (qe_var 5 vo_law_handed) qe_int) (qa_S (qe_ix qix_list (qe_var 5 vo_law_handed) qe_int) (qa_N (qe_var 8 vo_law_name) (qa_N (qe_var 10 vo_law_paper) qa_nil))))) db_law_paper_shows))
    (qss_one (qs_if (qt_w (qw_or (qt_not (qt_val (qe_callB qc_isi gl_law_isinstance T.b_isinstance bt_isinstance (qa_N (qe_var 11 vo_law_found) (qa_N (qe_bltn (v := .ty "bool") gl_law_bool T.b_bool bt_bool rfl nn_law_bool db_law_bool) qa_nil)) nn_law_isinstance db_law_isinstance))) (qw_or1 (qt_cmp qop_ne (qe_var 11 vo_law_found) (qe_call (G_law_alike.mono (by omega)) hr gl_law__law_alike T_law_alike.m T_law_alike.F.kp T_law_alike.b .nil pass0 (qa_N (qe_var 10 vo_law_paper) (qa_N (qe_var 9 vo_law_due) qa_nil)) db_law__law_alike) (nomarkQ _))))) (qss_one (qs_ret qe_bl)) qss_nil))))
    (qss_one (qs_set (i := 7) sc_law.nd rfl lo_law_other (qe_var 9 vo_law_due))))))
    (qss_cons (qs_set (i := 12) sc_law.nd rfl lo_law_names (qe_op qop_cat (qe_callB qc_sortedT gl_law_sorted T.b_sorted bt_sorted (qa_B (qe_op qop_cat (qe_callTy (qc_listD rfl) gl_law_list T.b_list bt_list (qa_S (qe_ix qix_tup (qe_var 1 vo_law_house) qe_int) qa_nil) nn_law_list db_law_list) (qe_callTy (qc_listD rfl) gl_law_list T.b_list bt_list (qa_S (qe_ix qix_tup (qe_var 1 vo_law_house) qe_int) qa_nil) nn_law_list db_law_list)) qa_nil) nn_law_sorted db_law_sorted) (qe_lst (qa_C qe_str qa_nil))))
    (qss_cons (qs_for PassesOwn.never rfl (qi_list (qe_comp rfl (n := 1) (fr := [4]) (N := ["one", "worths"]) (cs_mk (scX := defScope s_law) (NX := ["script", "house", "records", "wishes", "worths", "handed", "pool", "other", "name", "due", "paper", "found", "names", "some"]) rfl rfl (by decide +kernel)) (qi_list (qe_var 12 vo_law_names)) (fun _ _ _ _ _ => (qgx (i := 0) (show List.Nodup (α := Str) ["one", "worths"] by decide) (locC (by decide +kernel)))) (fun _ _ _ _ _ => (qi_one (qt_dnotin (hu_of hr) (qe_var 0 (VarC.ok (by decide +kernel))) (qe_var 1 (VarC.ok (by decide +kernel)))))) (fun _ _ _ _ _ => (qe_var 0 (VarC.ok (by decide +kernel)))))) (qg_name (i := 8) sc_law.nd rfl lo_law_name) (qss_cons (qs_set (i := 13) sc_law.nd rfl lo_law_some (qe_lst (qa_N (qe_var 7 vo_law_other) (qa_T (qe_tup (qa_C qe_str qa_nil)) (qa_T (qe_tup (qa_C qe_str qa_nil)) (qa_T (qe_tup (qa_C qe_str qa_nil)) (qa_T (qe_tup (qa_C qe_str (qa_C qe_int (qa_C qe_int (qa_C qe_int qa_nil))))) (qa_T (qe_tup qa_nil) qa_nil))))))))
    (qss_cons (qs_expr (qe_bm PySem.F.plainAttrs_list PySem.F.slot_list_append PySem.F.type_list_append qmt_append (qe_var 13 vo_law_some) (qa_T (qe_tup (qa_C qe_str (qa_T (qe_tup (qa_C qe_str (qa_C qe_int qa_nil))) (qa_T (qe_tup (qa_C qe_str (qa_C qe_int qa_nil))) qa_nil)))) qa_nil)))
    (qss_cons (qs_if (qt_w (qw_and (qt_din (hu_of hr) (qe_var 8 vo_law_name) (qe_var 2 vo_law_records)) (qw_and1 (qt_din (hu_of hr) (qe_var 8 vo_law_name) (qe_ix qix_tup (qe_var 1 vo_law_house) qe_int))))) (qss_one (qs_expr (qe_bm PySem.F.plainAttrs_list PySem.F.slot_list_append PySem.F.type_list_append qmt_append (qe_var 13 vo_law_some) (qa_T (qe_tup (qa_C qe_str (qa_S (qe_ix qix_tup (qe_dget (hu_of hr) (qe_var 2 vo_law_records) (qe_var 8 vo_law_name)) qe_int) (qa_S (qe_dget (hu_of hr) (qe_ix qix_tup (qe_var 1 vo_law_house) qe_int) (qe_var 8 vo_law_name)) qa_nil)))) qa_nil)))) qss_nil)
    (qss_one (qs_for PassesOwn.never rfl (qi_list (qe_var 13 vo_law_some)) (qg_name (i := 10) sc_law.nd rfl lo_law_paper) (qss_one (qs_if (qt_cmp qop_notB (qe_call (G_paper_shows.mono (by omega)) hr gl_law_paper_shows T_paper_shows.m T_paper_shows.F.kp T_paper_shows.b .nil pass0 (qa_S (qe_ix qix_list (qe_var 5 vo_law_handed) qe_int) (qa_S (qe_ix qix_list (qe_var 5 vo_law_handed) qe_int) (qa_S (qe_ix qix_list (qe_var 5 vo_law_handed) qe_int) (qa_N (qe_var 8 vo_law_name) (qa_N (qe_var 10 vo_law_paper) qa_nil))))) db_law_paper_shows) qe_bl (nomarkQ _)) (qss_one (qs_ret qe_bl)) qss_nil))))))))
    (qss_one (qs_ret (qe_cmp (qop_eqAl3 hr.units) (qe_var 5 vo_law_handed) (qe_lst (qa_N (qe_var 1 vo_law_house) (qa_N (qe_var 2 vo_law_records) (qa_N (qe_var 4 vo_law_worths) qa_nil)))) (nomarkQ _)))))))))))), ?_⟩
  walk_at "vs"
  intro t h hg hc rcd wl n gv rc kr rm ws H1 S1 et ho1 n17 er1 rD1 ewl hws
  walk_at "vs"
  intro st wd rd kn rmN H2 s2 hst hwd hrd sa hk
  have hS2 := SqL.same (S1.trans s2) hS
  have er2 := s2 _ _ er1
  have rD2 := rD1.map fun b q z => z.same s2
  have est := sa.e
  obtain ⟨kw, kws, ew2, kk, hkw⟩ := sa.ew
  have sok := sa.ok
  have hat : atI [V.ref wd, V.ref rd] 0 = some (.ref wd) := rfl
  have nwr : wd ≠ rcd := fun z => by rw [z, er1] at hwd; cases hwd
  obtain ⟨kg, kc, eh1, eg1, ec1, bd1⟩ := id ho1
  have ngw : hg ≠ wd := fun z => by rw [z, hwd] at eg1; cases eg1
  have ncw : hc ≠ wd := fun z => by rw [z, hwd] at ec1; cases ec1
  have hkwl : kw.length ≤ n := sa.kl ew2
  have eh2 := s2 _ _ eh1
  have eg2 := s2 _ _ eg1
  have ec2 := s2 _ _ ec1
  have bd2 := bd1.tups (Same.tups s2)
  have rg2 : Rd H2 hg (.dK kg) := .inl eg2
  walk_at "vs"
  intro g2 hg2
  have s3 := same_new (.dK kg) hg2
  have eg23 : upd H2 g2 (.dK kg) g2 = some (.dK kg) := upd_same
  have rc3 : Rd (upd H2 g2 (.dK kg)) hc (.dK kc) := .inl (s3 _ _ ec2)
  have eh3 := s3 _ _ eh2
  generalize upd H2 g2 (.dK kg) = H3 at *
  walk_at "vs"
  intro c2 hc2
  have s4 := same_new (.dK kc) hc2
  have ec24 : upd H3 c2 (.dK kc) c2 = some (.dK kc) := upd_same
  have eg24 := s4 _ _ eg23
  have S4 := s3.trans s4
  generalize upd H3 c2 (.dK kc) = H4 at *
  walk_at "vs"
  intro h2 hh2
  have s5 := same_new (.tup [.ref g2, .ref c2]) hh2
  have eh25 : upd H4 h2 (.tup [.ref g2, .ref c2]) h2 = some (.tup [.ref g2, .ref c2]) := upd_same
  have ec25 := s5 _ _ ec24
  have eg25 := s5 _ _ eg24
  have S5 := S4.trans s5
  have rr5 : Rd (upd H4 h2 (.tup [.ref g2, .ref c2])) rcd (.dK kr) := .inl (S5 _ _ er2)
  generalize upd H4 h2 (.tup [.ref g2, .ref c2]) = H5 at *
  walk_at "vs"
  intro r2 hr2
  have s6 := same_new (.dK kr) hr2
  have er26 : upd H5 r2 (.dK kr) r2 = some (.dK kr) := upd_same
  have S6 := S5.trans s6
  have rw6 : Rd (upd H5 r2 (.dK kr)) wd (.dK kw) := .inl (S6 _ _ ew2)
  have eh26 := s6 _ _ eh25
  have ec26 := s6 _ _ ec25
  have eg26 := s6 _ _ eg25
  generalize upd H5 r2 (.dK kr) = H6 at *
  walk_at "vs"
  intro w2 hw2
  have s7 := same_new (.dK kw) hw2
  have ew27 : upd H6 w2 (.dK kw) w2 = some (.dK kw) := upd_same
  have S7 := S6.trans s7
  have er27 := s7 _ _ er26
  have eh27 := s7 _ _ eh26
  have ec27 := s7 _ _ ec26
  have eg27 := s7 _ _ eg26
  generalize upd H6 w2 (.dK kw) = H7 at *
  walk_at "vs"
  intro hd hhd
  have s8 := same_new (.lst [.ref h2, .ref r2, .ref w2]) hhd
  have ehd8 : upd H7 hd (.lst [.ref h2, .ref r2, .ref w2]) hd = some (.lst [.ref h2, .ref r2, .ref w2]) := upd_same
  have S8 := S7.trans s8
  have er28 := s8 _ _ er27
  have eh28 := s8 _ _ eh27
  have ec28 := s8 _ _ ec27
  have eg28 := s8 _ _ eg27
  have ew28 := s8 _ _ ew27
  have hS8 := SqL.same S8 hS2
  generalize upd H7 hd (.lst [.ref h2, .ref r2, .ref w2]) = H8 at *
  walk_at "vs"
  intro p H9 s9 hp pl9
  have S9 := S8.trans s9
  walk_at "vs"
  intro oa0 hoa0
  have s10 := same_new (.tup [.str "given"]) hoa0
  have eo10 : upd H9 oa0 (.tup [.str "given"]) oa0 = some (.tup [.str "given"]) := upd_same
  have S10 := S9.trans s10
  have z10 := s9.trans s10
  have pl10 := pl9.same s10
  have e10 : ∀ {q : Addr} {u : HO}, H8 q = some u → p ≠ q := fun e z => by rw [z, e] at hp; cases hp
  generalize upd H9 oa0 (.tup [.str "given"]) = H10 at *
  have ew10 := S10 _ _ ew2
  walk_at "vs"
  intro o
  have t11 := tups_dk (o := .frz o (.dK kw)) ew10
  have k11 : ∀ {q : Addr} {u : HO}, q ≠ wd → H10 q = some u → upd H10 wd (.frz o (.dK kw)) q = some u := fun z e => (upd_ne z).trans e
  have n11 : ∀ {q : Addr} {u : HO}, H2 q = none → q ≠ wd := fun e z => by rw [z, ew2] at e; cases e
  have hold : Hold p h hg hc h2 g2 c2 rcd r2 wd w2 hd o n gv rc kg kc kr kw rm (upd H10 wd (.frz o (.dK kw))) := by
    refine ⟨t11 _ _ (S10 _ _ eh2), k11 ngw (S10 _ _ eg2), k11 ncw (S10 _ _ ec2), (bd2.tups (Same.tups S10)).tups t11, t11 _ _ (z10 _ _ eh28), k11 (fun z => ?_) (z10 _ _ eg28), k11 (fun z => ?_) (z10 _ _ ec28), k11 (Ne.symm nwr) (S10 _ _ er2), k11 (fun z => ?_) (z10 _ _ er28), (rD2.map fun b q z => z.same S10).map fun b q z => z.dk ew10, upd_same, k11 (fun z => ?_) (z10 _ _ ew28), k11 (fun z => ?_) (z10 _ _ ehd8), ?_⟩
    · rw [z, ew2] at hg2; cases hg2
    · rw [z, s3 _ _ ew2] at hc2; cases hc2
    · rw [z, S5 _ _ ew2] at hr2; cases hr2
    · rw [z, S6 _ _ ew2] at hw2; cases hw2
    · rw [z, S7 _ _ ew2] at hhd; cases hhd
    · have := e10 (S8 _ _ eg2)
      have := e10 (S8 _ _ ec2)
      have := e10 eg28
      have := e10 ec28
      have := e10 (S8 _ _ er2)
      have := e10 er28
      have := e10 (S8 _ _ ew2)
      have := e10 ew28
      have := e10 ehd8
      simp only [List.mem_cons, List.not_mem_nil, or_false, not_or]
      exact ⟨by assumption, by assumption, by assumption, by assumption, by assumption, by assumption, by assumption, by assumption, by assumption⟩
  have npw : p ≠ wd := e10 (S8 _ _ ew2)
  have pl11 : PoolAt (upd H10 wd (.frz o (.dK kw))) p 503 := by
    obtain ⟨rest, mixed, count, ep, hb⟩ := pl10
    exact ⟨rest, mixed, count, k11 npw ep, hb⟩
  have eo11 : upd H10 wd (.frz o (.dK kw)) oa0 = some (.tup [.str "given"]) := t11 _ _ eo10
  generalize upd H10 wd (.frz o (.dK kw)) = H11 at *
  clear hg2 hc2 hr2 hw2 hhd s3 s4 s5 s6 s7 s8 s9 s10 S4 S5 S6 S7 S8 S9 S10 z10 t11 k11 n11 e10 eh1 eg1 ec1 bd1 eh2 eg2 ec2 bd2 er1 er2 rD1 rD2 ew10 eh3 rc3 rg2 rr5 rw6 hp pl9 pl10 eo10 hoa0 hh2
  clear eg23 ec24 eg24 eh25 ec25 eg25 er26 eh26 ec26 eg26 ew27 er27 eh27 ec27 eg27 ehd8 er28 eh28 ec28 eg28 ew28 hS8 hS2
  refine for_dict (fun i σ H' => (∃ oa t1 t2 t3 t4, σ = [some (.ref a), some (.ref h), some (.ref rcd), some (.ref wl), some (.ref wd), some (.ref hd), some (.ref p), some (.ref oa), t1, t2, t3, t4, none, none] ∧ ∃ t0, IsTh K H' (.ref oa) t0 ∧ NiT 12 t0) ∧ Hold p h hg hc h2 g2 c2 rcd r2 wd w2 hd o n gv rc kg kc kr kw rm H' ∧ PoolAt H' p (503 + 2 * i)) ?_ ?_ ?_ ?_
  · exact ⟨⟨oa0, none, none, none, none, rfl, _, .tup eo11 (.cons (.str _) .nil), by simp, fun t ht => by
      have : t = .str "given" := by simpa using ht
      rw [this]; exact niT_str (by decide +kernel)⟩, hold, pl11⟩
  · intro i σ H' _ hP
    exact hP.2.1.ew
  · intro i k v σ H12 hkv hP
    obtain ⟨⟨oa, t1, t2, t3, t4, rfl, t0, it0, nt0⟩, hd12, pl12⟩ := hP
    have hi : i < kw.length := (List.getElem?_eq_some_iff.mp hkv).1
    obtain ⟨x, rfl, hxi⟩ := kk.at hkv
    have hx : kn x ≠ none := fun z => kk.none.mp (by rw [hkw, z]; rfl) (List.mem_of_getElem? hxi)
    have rw12 : Rd H12 wd (.dK kw) := .inr ⟨o, hd12.ew⟩
    have ho12 := hd12.ho
    have er12 := hd12.er
    have rD12 := hd12.rD
    walk_at "vs"
    intro du pp H13 s13 pA pO
    have hd13 := hd12.same s13
    have pl13 := pl12.same s13
    have it13 := it0.same s13
    walk_at "vs"
    intro l0 hl0
    have s14 := same_new (.lst [.ref du]) hl0
    have e14 : upd H13 l0 (.lst [.ref du]) l0 = some (.lst [.ref du]) := upd_same
    have n14 : l0 ∉ [p] := fun z => pl13.ne hl0 (by simpa using z)
    have hd14 := hd13.same s14
    have pl14 := pl13.same s14
    have it14 := it13.same s14
    have pA14 := pA.tups (Same.tups s14)
    generalize upd H13 l0 (.lst [.ref du]) = H14 at *
    walk_at "vs"
    intro l1 wso tso H15 b15 pl15 el15 hl15 its15 nts15
    have e15 := b15 _ _ n14 e14
    have hd15 := hd14.but pl14 b15
    have pA15 := pA14.tups (pl14.tups b15)
    have hz : [V.ref du].length + wso.length ≤ sizeLine := by rw [hl15]; exact Nat.le_of_lt (small1000 (show 1 + 2 ≤ 1000 by decide))
    walk_at "vs"
    intro l2 hl2
    have s16 := same_new (.lst ([.ref du] ++ wso)) hl2
    have e16 : upd H15 l2 (.lst ([.ref du] ++ wso)) l2 = some (.lst ([.ref du] ++ wso)) := upd_same
    have hd16 := hd15.same s16
    have pl16 := pl15.same s16
    have pA16 := pA15.tups (Same.tups s16)
    have its16 := its15.same s16
    generalize upd H15 l2 (.lst ([.ref du] ++ wso)) = H16 at *
    have nic16 : ∀ v ∈ [V.ref du] ++ wso, Nic K H16 v := fun v hv => by
      rcases List.mem_append.mp hv with z | z
      · have : v = .ref du := by simpa using z
        rw [this]
        exact ⟨_, pA16.isTh, pA16.niT.mono (by omega)⟩
      · obtain ⟨j, hj⟩ := List.getElem?_of_mem z
        obtain ⟨t, et, r⟩ := its16.get hj
        exact ⟨t, r, nts15 t (List.mem_of_getElem? et)⟩
    walk_at "vs"
    refine for_list (xs := [V.ref du] ++ wso) (fun j σ H' => (∃ t1 t2, σ = [some (.ref a), some (.ref h), some (.ref rcd), some (.ref wl), some (.ref wd), some (.ref hd), some (.ref p), some (.ref oa), some (.str x), some (.ref du), t1, t2, none, none]) ∧ Same H16 H') ?_ ?_ ?_ ?_
    · exact ⟨⟨_, _, rfl⟩, Same.refl _⟩
    · intro j σ H' _ hP
      exact SqL.of (hP.2 _ _ e16)
    · intro j v σ H17 hv hP
      obtain ⟨⟨u1, u2, rfl⟩, S17⟩ := hP
      obtain ⟨t, it17, nt17⟩ := (nic16 v (List.mem_of_getElem? hv)).same S17
      have hd17 := hd16.same S17
      have ehd17 := hd17.ehd
      have ho17 := hd17.ho2
      have er17 := hd17.er2
      have rD17 := hd17.rD
      have ew17 := hd17.ew2
      have hat0 : atI [V.ref h2, V.ref r2, V.ref w2] 0 = some (.ref h2) := rfl
      have hat1 : atI [V.ref h2, V.ref r2, V.ref w2] 1 = some (.ref r2) := rfl
      have hat2 : atI [V.ref h2, V.ref r2, V.ref w2] 2 = some (.ref w2) := rfl
      walk_at "vs"
      refine ⟨fun z => absurd z hx, fun p' H18 _ hp' s18 => ?_⟩
      have epp := pO.one hp'
      subst epp
      have S18 := S17.trans s18
      have it18 := it17.same s18
      have pA18 : IsTh K H18 (.ref du) pp.toTh := (pA16.tups (Same.tups S18)).isTh
      have np18 : NiT 12 pp.toTh := pA16.niT.mono (by omega)
      walk_at "vs"
      intro H19 s19
      rw [alike_same pp.plT]
      have S19 := S18.trans s19
      have hne : (!decide (V.bl (sameT pp.toTh t) = V.bl (sameT pp.toTh t))) = false := by simp
      walk_at "vs"
      rw [hne]
      walk_at "vs"
      exact ⟨⟨_, _, rfl⟩, S19⟩
    · intro σ H17 hP
      obtain ⟨⟨u1, u2, rfl⟩, S17⟩ := hP
      walk_at "vs"
      exact ⟨⟨du, _, _, _, _, rfl, _, (pA16.tups (Same.tups S17)).isTh, pA16.niT.mono (by omega)⟩, hd16.same S17, by
        have := pl16.same S17
        rwa [show 503 + 2 * (i + 1) = 503 + 2 * i + 2 by omega]⟩
  · intro σ H12 hP
    obtain ⟨⟨oa, t1, t2, t3, t4, rfl, t0, it0, nt0⟩, hd12, pl12⟩ := hP
    have eh12 := hd12.eh
    have eg12 := hd12.eg
    obtain ⟨gs, cs, kgk, kck, hlen⟩ := hd12.bd.k
    walk_at "vs"
    intro l1 hl1
    rw [keys_list kgk.k]
    have s13 := same_new (.lst (gs.map V.str)) hl1
    have e13 : upd H12 l1 (.lst (gs.map V.str)) l1 = some (.lst (gs.map V.str)) := upd_same
    have eh13 := s13 _ _ eh12
    have ec13 := s13 _ _ hd12.ec
    generalize upd H12 l1 (.lst (gs.map V.str)) = H13 at *
    walk_at "vs"
    intro l2 hl2
    rw [keys_list kck.k]
    have s14 := same_new (.lst (cs.map V.str)) hl2
    have e14 : upd H13 l2 (.lst (cs.map V.str)) l2 = some (.lst (cs.map V.str)) := upd_same
    have e134 := s14 _ _ e13
    have S14 := s13.trans s14
    generalize upd H13 l2 (.lst (cs.map V.str)) = H14 at *
    have hz : (gs.map V.str).length + (cs.map V.str).length ≤ sizeLine := by rw [List.length_map, List.length_map]; exact Nat.le_of_lt (small1000 (by omega))
    walk_at "vs"
    intro l3 hl3
    rw [← List.map_append]
    have s15 := same_new (.lst ((gs ++ cs).map V.str)) hl3
    have e15 : upd H14 l3 (.lst ((gs ++ cs).map V.str)) l3 = some (.lst ((gs ++ cs).map V.str)) := upd_same
    have S15 := S14.trans s15
    generalize upd H14 l3 (.lst ((gs ++ cs).map V.str)) = H15 at *
    refine ⟨l3, gs ++ cs, rfl, SqL.of e15, by rw [List.length_append]; omega, fun l4 us hl4 hperm => ?_⟩
    have s16 := same_new (.lst (us.map V.str)) hl4
    have e16 : upd H15 l4 (.lst (us.map V.str)) l4 = some (.lst (us.map V.str)) := upd_same
    have S16 := S15.trans s16
    have hul : us.length = n := by rw [hperm.length_eq, List.length_append]; exact hlen
    generalize upd H15 l4 (.lst (us.map V.str)) = H16 at *
    walk_at "vs"
    intro l5 hl5
    have s17 := same_new (.lst [.str "zzz"]) hl5
    have e17 : upd H16 l5 (.lst [.str "zzz"]) l5 = some (.lst (([("zzz" : Str)]).map V.str)) := upd_same
    have e167 := s17 _ _ e16
    have S17 := S16.trans s17
    generalize upd H16 l5 (.lst [.str "zzz"]) = H17 at *
    have hz2 : (us.map V.str).length + (([("zzz" : Str)]).map V.str).length ≤ sizeLine := by rw [List.length_map, List.length_map]; exact Nat.le_of_lt (small1000 (by simp; omega))
    walk_at "vs"
    intro l6 hl6
    rw [← List.map_append]
    have s18 := same_new (.lst ((us ++ [("zzz" : Str)]).map V.str)) hl6
    have e18 : upd H17 l6 (.lst ((us ++ [("zzz" : Str)]).map V.str)) l6 = some (.lst ((us ++ [("zzz" : Str)]).map V.str)) := upd_same
    have S18 := S17.trans s18
    have hd18' := hd12.same S18
    have it18' := it0.same S18
    generalize upd H17 l6 (.lst ((us ++ [("zzz" : Str)]).map V.str)) = H18 at *
    clear S14 S15 S16 S17 s13 s14 s15 s16 s17 s18 hz hz2 e13 eh13 ec13 e14 e134 e15 e16 e17 e167 hl1 hl2 hl3 hl4 hl5 hl6 S18 eh12 eg12 hd12 it0 pl12
    walk_at "vs"
    intro D hD
    refine comp_list (xs := (us ++ [("zzz" : Str)]).map V.str) (fun i σ' H' => (∃ t, σ' = [t, some (.ref wd)]) ∧ Same H18 H' ∧ ∃ ts : List Str, H' D = some (.lst (ts.map V.str)) ∧ ts.length ≤ i ∧ ∀ y ∈ ts, kn y = none) ?_ ?_ ?_ ?_
    · exact ⟨⟨none, rfl⟩, same_new _ hD, [], upd_same, by simp, by simp⟩
    · intro j σ' H' _ hP
      exact SqL.of (hP.2.1 _ _ e18)
    · intro j v σ' H' hv hP
      obtain ⟨⟨t, rfl⟩, S19, ts, eD, hts, hkt⟩ := hP
      obtain ⟨x, hxj, rfl⟩ : ∃ x, (us ++ [("zzz" : Str)])[j]? = some x ∧ v = V.str x := by
        rw [List.getElem?_map] at hv
        cases e : (us ++ [("zzz" : Str)])[j]? with
        | none => rw [e] at hv; cases hv
        | some x => rw [e] at hv; exact ⟨x, rfl, (Option.some.inj hv).symm⟩
      have hj : j < us.length + 1 := by
        have := (List.getElem?_eq_some_iff.mp hxj).1
        simpa using this
      have dw : DGet H' wd (.str x) ((kn x).map V.int) := by
        rw [← hkw]; exact .inl ⟨kw, .inr x, .inr ⟨o, S19 _ _ hd18'.ew⟩, rfl, rfl⟩
      cases ekn : kn x with
      | none =>
        rw [ekn] at dw
        have dw : DGet H' wd (.str x) none := dw
        have hz : (ts.map V.str).length < sizeLine := by rw [List.length_map]; exact small1000 (by omega)
        walk_at "vs"
        refine ⟨⟨_, rfl⟩, same_updN _ hD S19, ts ++ [x], ?_, by rw [List.length_append]; simp; omega, ?_⟩
        · rw [List.map_append]; exact upd_same
        · intro y hy
          rcases List.mem_append.mp hy with z | z
          · exact hkt y z
          · have : y = x := by simpa using z
            rw [this]; exact ekn
      | some u =>
        rw [ekn] at dw
        have dw : DGet H' wd (.str x) (some (.int u)) := dw
        walk_at "vs"
        exact ⟨⟨_, rfl⟩, S19, ts, eD, by omega, hkt⟩
    · intro σ' H19 hP
      obtain ⟨_, S19, ts, eD, hts, hkt⟩ := hP
      have hd18 := hd18'.same S19
      have it18 := it18'.same S19
      clear hd18' it18' S19
      generalize H19 = H18' at *
      walk_at "vs"
      refine for_list (xs := ts.map V.str) (fun j σ H' => (∃ u1 u2 u3 u4 u5, σ = [some (.ref a), some (.ref h), some (.ref rcd), some (.ref wl), some (.ref wd), some (.ref hd), some (.ref p), some (.ref oa), u1, u2, u3, u4, some (.ref l6), u5]) ∧ Same H18' H') ?_ ?_ ?_ ?_
      · exact ⟨⟨_, _, _, _, _, rfl⟩, Same.refl _⟩
      · intro j σ' H' _ hP
        exact SqL.of (hP.2 _ _ eD)
      · intro j v σ H20 hv hP
        obtain ⟨⟨u1, u2, u3, u4, u5, rfl⟩, S20⟩ := hP
        obtain ⟨x, hx, rfl⟩ : ∃ x, kn x = none ∧ v = V.str x := by
          rw [List.getElem?_map] at hv
          cases e : ts[j]? with
          | none => rw [e] at hv; cases hv
          | some x => rw [e] at hv; exact ⟨x, hkt x (List.mem_of_getElem? e), (Option.some.inj hv).symm⟩
        have hat0 : atI [V.ref h2, V.ref r2, V.ref w2] 0 = some (.ref h2) := rfl
        have hat1 : atI [V.ref h2, V.ref r2, V.ref w2] 1 = some (.ref r2) := rfl
        have hat2 : atI [V.ref h2, V.ref r2, V.ref w2] 2 = some (.ref w2) := rfl
        walk_at "vs"
        intro b1 hb1
        have s21 := same_new (.tup [.str "given"]) hb1
        have e1 : upd H20 b1 (.tup [.str "given"]) b1 = some (.tup [.str "given"]) := upd_same
        generalize upd H20 b1 (.tup [.str "given"]) = H21 at *
        walk_at "vs"
        intro b2 hb2
        have s22 := same_new (.tup [.str "new"]) hb2
        have e2 : upd H21 b2 (.tup [.str "new"]) b2 = some (.tup [.str "new"]) := upd_same
        generalize upd H21 b2 (.tup [.str "new"]) = H22 at *
        walk_at "vs"
        intro b3 hb3
        have s23 := same_new (.tup [.str "alike"]) hb3
        have e3 : upd H22 b3 (.tup [.str "alike"]) b3 = some (.tup [.str "alike"]) := upd_same
        generalize upd H22 b3 (.tup [.str "alike"]) = H23 at *
        walk_at "vs"
        intro b4 hb4
        have s24 := same_new (.tup [.str "read", .int 0, .int 1, .int 2]) hb4
        have e4 : upd H23 b4 (.tup [.str "read", .int 0, .int 1, .int 2]) b4 = some (.tup [.str "read", .int 0, .int 1, .int 2]) := upd_same
        generalize upd H23 b4 (.tup [.str "read", .int 0, .int 1, .int 2]) = H24 at *
        walk_at "vs"
        intro b5 hb5
        have s25 := same_new (.tup []) hb5
        have e5 : upd H24 b5 (.tup []) b5 = some (.tup []) := upd_same
        generalize upd H24 b5 (.tup []) = H25 at *
        have S25 := S20.trans (s21.trans (s22.trans (s23.trans (s24.trans s25))))
        have nic25 : ∀ v ∈ [V.ref oa, .ref b1, .ref b2, .ref b3, .ref b4, .ref b5], Nic K H25 v := fun v hv => by
          have : v = .ref oa ∨ v = .ref b1 ∨ v = .ref b2 ∨ v = .ref b3 ∨ v = .ref b4 ∨ v = .ref b5 := by simpa using hv
          rcases this with rfl | rfl | rfl | rfl | rfl | rfl
          · exact ⟨t0, it18.same S25, nt0⟩
          · exact nic_w (s25 _ _ (s24 _ _ (s23 _ _ (s22 _ _ e1)))) (by decide +kernel)
          · exact nic_w (s25 _ _ (s24 _ _ (s23 _ _ e2))) (by decide +kernel)
          · exact nic_w (s25 _ _ (s24 _ _ e3)) (by decide +kernel)
          · exact nic_four (s25 _ _ e4)
          · exact nic_nil e5
        clear hb1 hb2 hb3 hb4 hb5 e1 e2 e3 e4 e5 s21 s22 s23 s24 s25
        walk_at "vs"
        intro sl hsl
        have s26 := same_new (.lst [.ref oa, .ref b1, .ref b2, .ref b3, .ref b4, .ref b5]) hsl
        have e26 : upd H25 sl (.lst [.ref oa, .ref b1, .ref b2, .ref b3, .ref b4, .ref b5]) sl = some (.lst [.ref oa, .ref b1, .ref b2, .ref b3, .ref b4, .ref b5]) := upd_same
        generalize upd H25 sl (.lst [.ref oa, .ref b1, .ref b2, .ref b3, .ref b4, .ref b5]) = H26 at *
        walk_at "vs"
        intro c1 hc1
        have s27 := same_new (.tup [.str "number", .int 1]) hc1
        have ec1 : upd H26 c1 (.tup [.str "number", .int 1]) c1 = some (.tup [.str "number", .int 1]) := upd_same
        generalize upd H26 c1 (.tup [.str "number", .int 1]) = H27 at *
        walk_at "vs"
        intro d1 hd1
        have s28 := same_new (.tup [.str "number", .int 2]) hd1
        have ed1 : upd H27 d1 (.tup [.str "number", .int 2]) d1 = some (.tup [.str "number", .int 2]) := upd_same
        generalize upd H27 d1 (.tup [.str "number", .int 2]) = H28 at *
        walk_at "vs"
        intro f1 hf1
        have s29 := same_new (.tup [.str "recipe", .ref c1, .ref d1]) hf1
        have ef1 : upd H28 f1 (.tup [.str "recipe", .ref c1, .ref d1]) f1 = some (.tup [.str "recipe", .ref c1, .ref d1]) := upd_same
        have nf : Nic K (upd H28 f1 (.tup [.str "recipe", .ref c1, .ref d1])) (.ref f1) := nic_nums ef1 (s29 _ _ (s28 _ _ ec1)) (s29 _ _ ed1)
        generalize upd H28 f1 (.tup [.str "recipe", .ref c1, .ref d1]) = H29 at *
        have esl9 := s29 _ _ (s28 _ _ (s27 _ _ e26))
        have S29 := s26.trans (s27.trans (s28.trans s29))
        have S30 := same_updN (.lst ([V.ref oa, .ref b1, .ref b2, .ref b3, .ref b4, .ref b5] ++ [.ref f1])) hsl S29
        have T30 : Tups H29 (upd H29 sl (.lst ([V.ref oa, .ref b1, .ref b2, .ref b3, .ref b4, .ref b5] ++ [.ref f1]))) := fun y xs z => (upd_ne (fun w => by rw [w, esl9] at z; cases z)).trans z
        have esl : upd H29 sl (.lst ([V.ref oa, .ref b1, .ref b2, .ref b3, .ref b4, .ref b5] ++ [.ref f1])) sl = some (.lst ([V.ref oa, .ref b1, .ref b2, .ref b3, .ref b4, .ref b5] ++ [.ref f1])) := upd_same
        have nic : ∀ v ∈ [V.ref oa, .ref b1, .ref b2, .ref b3, .ref b4, .ref b5] ++ [.ref f1], Nic K (upd H29 sl (.lst ([V.ref oa, .ref b1, .ref b2, .ref b3, .ref b4, .ref b5] ++ [.ref f1]))) v := fun v hv => by
          rcases List.mem_append.mp hv with z | z
          · exact (nic25 v z).same S30
          · have : v = .ref f1 := by simpa using z
            rw [this]; exact nf.tups T30
        have SB := S25.trans S30
        have hd30 := hd18.same SB
        have er30 := hd30.er
        have eh30 := hd30.eh
        have ec30 := hd30.ec
        have dr : DGet (upd H29 sl (.lst ([V.ref oa, .ref b1, .ref b2, .ref b3, .ref b4, .ref b5] ++ [.ref f1]))) rcd (.str x) (valV kr (.inr x)) := DGet.k (k := .inr x) er30
        have dc : DGet (upd H29 sl (.lst ([V.ref oa, .ref b1, .ref b2, .ref b3, .ref b4, .ref b5] ++ [.ref f1]))) hc (.str x) (valV kc (.inr x)) := DGet.k (k := .inr x) ec30
        clear nic25 nf s26 s27 s28 s29 T30 ec1 ed1 ef1 e26 hc1 hd1 hf1
        cases erm : rm x with
        | none =>
          rw [hd30.rD.w x erm] at dr
          walk_at "vs"
          generalize upd H29 sl (.lst ([V.ref oa, .ref b1, .ref b2, .ref b3, .ref b4, .ref b5] ++ [.ref f1])) = H30 at *
          refine for_list (xs := [V.ref oa, .ref b1, .ref b2, .ref b3, .ref b4, .ref b5] ++ [.ref f1]) (fun j σ H' => (∃ t, σ = [some (.ref a), some (.ref h), some (.ref rcd), some (.ref wl), some (.ref wd), some (.ref hd), some (.ref p), some (.ref oa), some (.str x), u2, t, u4, some (.ref l6), some (.ref sl)]) ∧ Same H30 H') ?_ ?_ ?_ ?_
          · exact ⟨⟨_, rfl⟩, Same.refl _⟩
          · intro j σ H' _ hP
            exact SqL.of (hP.2 _ _ esl)
          · intro j v σ H40 hv hP
            obtain ⟨⟨y1, rfl⟩, S40⟩ := hP
            obtain ⟨t, it40, _⟩ := (nic v (List.mem_of_getElem? hv)).same S40
            have hd40 := (hd18.same SB).same S40
            have ehd40 := hd40.ehd
            have ho40 := hd40.ho2
            have er40 := hd40.er2
            have rD40 := hd40.rD
            have ew40 := hd40.ew2
            walk_at "vs"
            refine ⟨fun _ H41 s41 => ?_, fun p' H41 z => absurd hx z⟩
            walk_at "vs"
            exact ⟨⟨_, rfl⟩, S40.trans s41⟩
          · intro σ H40 hP
            obtain ⟨⟨y1, rfl⟩, S40⟩ := hP
            walk_at "vs"
            exact ⟨⟨_, _, _, _, _, rfl⟩, SB.trans S40⟩
        | some qq =>
          obtain ⟨r', ps, v'⟩ := qq
          obtain ⟨bb, hbb, br, l, as, f1', R1, el, hRs, _⟩ := hd30.rD.v x _ erm
          obtain ⟨got', k', hk', ek', rk'⟩ := hd30.rD.ok x r' ps v' erm
          rw [hbb] at dr
          have f1' : upd H29 sl (.lst ([V.ref oa, .ref b1, .ref b2, .ref b3, .ref b4, .ref b5] ++ [.ref f1])) bb = some (.tup [.ref br, .ref l, .int v']) := f1'
          cases erc : rc x with
          | none =>
            rw [hd30.bd.rn x erc] at dc
            walk_at "vs"
            generalize upd H29 sl (.lst ([V.ref oa, .ref b1, .ref b2, .ref b3, .ref b4, .ref b5] ++ [.ref f1])) = H30 at *
            refine for_list (xs := [V.ref oa, .ref b1, .ref b2, .ref b3, .ref b4, .ref b5] ++ [.ref f1]) (fun j σ H' => (∃ t, σ = [some (.ref a), some (.ref h), some (.ref rcd), some (.ref wl), some (.ref wd), some (.ref hd), some (.ref p), some (.ref oa), some (.str x), u2, t, u4, some (.ref l6), some (.ref sl)]) ∧ Same H30 H') ?_ ?_ ?_ ?_
            · exact ⟨⟨_, rfl⟩, Same.refl _⟩
            · intro j σ H' _ hP
              exact SqL.of (hP.2 _ _ esl)
            · intro j v σ H40 hv hP
              obtain ⟨⟨y1, rfl⟩, S40⟩ := hP
              obtain ⟨t, it40, _⟩ := (nic v (List.mem_of_getElem? hv)).same S40
              have hd40 := (hd18.same SB).same S40
              have ehd40 := hd40.ehd
              have ho40 := hd40.ho2
              have er40 := hd40.er2
              have rD40 := hd40.rD
              have ew40 := hd40.ew2
              walk_at "vs"
              refine ⟨fun _ H41 s41 => ?_, fun p' H41 z => absurd hx z⟩
              walk_at "vs"
              exact ⟨⟨_, rfl⟩, S40.trans s41⟩
            · intro σ H40 hP
              obtain ⟨⟨y1, rfl⟩, S40⟩ := hP
              walk_at "vs"
              exact ⟨⟨_, _, _, _, _, rfl⟩, SB.trans S40⟩
          | some r =>
            obtain ⟨k2, hk2, ek2, rk2⟩ := hd30.bd.ok.rk x r erc
            obtain ⟨br2, hbr2, R2⟩ := hd30.bd.r x r erc
            rw [hbr2] at dc
            have hdp1 := rk'.d
            have hdp2 := rk2.d
            have hatr : atI [V.ref br, .ref l, .int v'] 0 = some (.ref br) := rfl
            have hath : atI [V.ref hg, .ref hc] 1 = some (.ref hc) := rfl
            walk_at "vs"
            intro f2 hf2
            have s31 := same_new (.tup [.str "recipe", .ref br, .ref br2]) hf2
            have e31 : upd (upd H29 sl (.lst ([V.ref oa, .ref b1, .ref b2, .ref b3, .ref b4, .ref b5] ++ [.ref f1]))) f2 (.tup [.str "recipe", .ref br, .ref br2]) f2 = some (.tup [.str "recipe", .ref br, .ref br2]) := upd_same
            generalize upd H29 sl (.lst ([V.ref oa, .ref b1, .ref b2, .ref b3, .ref b4, .ref b5] ++ [.ref f1])) = H30 at *
            have nf : Nic K (upd H30 f2 (.tup [.str "recipe", .ref br, .ref br2])) (.ref f2) := nic_three e31 (R1.tups (Same.tups s31)).isTh ((R.niT _ rk'.g).mono (by show r'.depth + 1 ≤ 10; omega)) (R2.tups (Same.tups s31)).isTh ((R.niT _ rk2.g).mono (by omega))
            generalize upd H30 f2 (.tup [.str "recipe", .ref br, .ref br2]) = H31 at *
            have esl31 := s31 _ _ esl
            have S31 := S30.trans s31
            have S32 := same_updN (.lst ([V.ref oa, .ref b1, .ref b2, .ref b3, .ref b4, .ref b5] ++ [.ref f1] ++ [.ref f2])) hsl S31
            have T32 : Tups H31 (upd H31 sl (.lst ([V.ref oa, .ref b1, .ref b2, .ref b3, .ref b4, .ref b5] ++ [.ref f1] ++ [.ref f2]))) := fun y xs z => (upd_ne (fun w => by rw [w, esl31] at z; cases z)).trans z
            have esl : upd H31 sl (.lst ([V.ref oa, .ref b1, .ref b2, .ref b3, .ref b4, .ref b5] ++ [.ref f1] ++ [.ref f2])) sl = some (.lst ([V.ref oa, .ref b1, .ref b2, .ref b3, .ref b4, .ref b5] ++ [.ref f1] ++ [.ref f2])) := upd_same
            have nic : ∀ v ∈ [V.ref oa, .ref b1, .ref b2, .ref b3, .ref b4, .ref b5] ++ [.ref f1] ++ [.ref f2], Nic K (upd H31 sl (.lst ([V.ref oa, .ref b1, .ref b2, .ref b3, .ref b4, .ref b5] ++ [.ref f1] ++ [.ref f2]))) v := fun v hv => by
              rcases List.mem_append.mp hv with z | z
              · exact ((nic v z).same s31).tups T32
              · have : v = .ref f2 := by simpa using z
                rw [this]; exact nf.tups T32
            have SC := S25.trans S32
            have hz7 : ([V.ref oa, V.ref b1, V.ref b2, V.ref b3, V.ref b4, V.ref b5] ++ [V.ref f1]).length < sizeLine := small1000 (show 7 ≤ 1000 by decide)
            walk_at "vs"
            generalize upd H31 sl (.lst ([V.ref oa, .ref b1, .ref b2, .ref b3, .ref b4, .ref b5] ++ [.ref f1] ++ [.ref f2])) = H32 at *
            refine for_list (xs := [V.ref oa, .ref b1, .ref b2, .ref b3, .ref b4, .ref b5] ++ [.ref f1] ++ [.ref f2]) (fun j σ H' => (∃ t, σ = [some (.ref a), some (.ref h), some (.ref rcd), some (.ref wl), some (.ref wd), some (.ref hd), some (.ref p), some (.ref oa), some (.str x), u2, t, u4, some (.ref l6), some (.ref sl)]) ∧ Same H32 H') ?_ ?_ ?_ ?_
            · exact ⟨⟨_, rfl⟩, Same.refl _⟩
            · intro j σ H' _ hP
              exact SqL.of (hP.2 _ _ esl)
            · intro j v σ H40 hv hP
              obtain ⟨⟨y1, rfl⟩, S40⟩ := hP
              obtain ⟨t, it40, _⟩ := (nic v (List.mem_of_getElem? hv)).same S40
              have hd40 := (hd18.same SC).same S40
              have ehd40 := hd40.ehd
              have ho40 := hd40.ho2
              have er40 := hd40.er2
              have rD40 := hd40.rD
              have ew40 := hd40.ew2
              walk_at "vs"
              refine ⟨fun _ H41 s41 => ?_, fun p' H41 z => absurd hx z⟩
              walk_at "vs"
              exact ⟨⟨_, rfl⟩, S40.trans s41⟩
            · intro σ H40 hP
              obtain ⟨⟨y1, rfl⟩, S40⟩ := hP
              walk_at "vs"
              exact ⟨⟨_, _, _, _, _, rfl⟩, SC.trans S40⟩
      · intro σ H20 hP
        obtain ⟨⟨u1, u2, u3, u4, u5, rfl⟩, S20⟩ := hP
        have hd20 := hd18.same S20
        have ehd20 := hd20.ehd
        walk_at "vs"
        intro pl hpl
        have s21 := same_new (.lst [.ref h, .ref rcd, .ref wd]) hpl
        have hd21 := hd20.same s21
        refine ⟨hd, pl, _, _, rfl, rfl, SqL.of hd21.ehd, SqL.of upd_same, rfl, fun i x y hx hy => ?_, q _⟩
        match i, hx, hy with
        | 0, hx, hy => cases hx; cases hy; exact .inr ⟨h2, h, .ref g2, .ref c2, .ref hg, .ref hc, rfl, rfl, hd21.eh2, hd21.eh, .inr ⟨g2, hg, kg, rfl, rfl, .inl hd21.eg2, .inl hd21.eg, hd21.bd.plG⟩, .inr ⟨c2, hc, kc, rfl, rfl, .inl hd21.ec2, .inl hd21.ec, hd21.bd.plC⟩⟩
        | 1, hx, hy => cases hx; cases hy; exact .inl (.inr ⟨r2, rcd, kr, rfl, rfl, .inl hd21.er2, .inl hd21.er, hd21.rD.plain⟩)
        | 2, hx, hy => cases hx; cases hy; exact .inl (.inr ⟨w2, wd, kw, rfl, rfl, .inl hd21.ew2, .inr ⟨o, hd21.ew⟩, plW kk hkw⟩)
end

theorem fnT_mk {K : PySem.W.Frag} {h : Heap} {mg : Str → Option Value} (X : K.In h) (G : h.Ns mainGlobals mg) {x : Str} {st : Stmt} {ps : List Str} {f : Addr} {oc : Value} {od an : Option Addr} {osl : Array (Option Value)} {kV doc pm cdv ct : Value}
    (a : PySem.W.nsIn K mainGlobals x = some (some (.ref f))) (l : K.lookup f = some ⟨oc, od, .func (PySem.W.fnOf x x (defArgs st) (defBody st) (defScope st) .none kV doc pm an cdv ct), osl⟩) (c : PySem.W.codeIn K cdv x = true) (k : PySem.W.keepIn K (.ref f) = true)
    (hb : ∀ us : List Value, us.length = ps.length → bindArgs (PySem.W.fnOf x x (defArgs st) (defBody st) (defScope st) .none kV doc pm an cdv ct) ⟨us, []⟩ = pure (ps.zip us)) :
    FnT K mg x st ps f (PySem.W.fnOf x x (defArgs st) (defBody st) (defScope st) .none kV doc pm an cdv ct) :=
  ⟨fun_mk l c k, Binds.all hb, PySem.W.mg_of X G a⟩


theorem all_mk {l : PySem.W.OpenLaw} {w : World} {K : PySem.W.Frag} {h : Heap} {mg : Str → Option Value} {fa f1 f2 f3 f4 f5 f6 f7 f8 f9 f10 f11 f12 f13 f14 f15 f16 f17 f18 f19 f20 f21 f22 f23 : Addr} (X : K.In h) (G : h.Ns mainGlobals mg) (hfa : mg "law" = some (.ref fa))
    {od1 an1 od2 an2 od3 an3 od4 an4 od5 an5 od6 an6 od7 an7 od8 an8 od9 an9 od10 an10 od11 an11 od12 an12 od13 an13 od14 an14 od15 an15 od16 an16 od17 an17 od18 an18 od19 an19 od20 an20 od21 an21 od22 an22 od23 an23 : Option Addr} {sl1 sl2 sl3 sl4 sl5 sl6 sl7 sl8 sl9 sl10 sl11 sl12 sl13 sl14 sl15 sl16 sl17 sl18 sl19 sl20 sl21 sl22 sl23 : Array (Option Value)} {oc1 kV1 dc1 pm1 cd1 ct1 oc2 kV2 dc2 pm2 cd2 ct2 oc3 kV3 dc3 pm3 cd3 ct3 oc4 kV4 dc4 pm4 cd4 ct4 oc5 kV5 dc5 pm5 cd5 ct5 oc6 kV6 dc6 pm6 cd6 ct6 oc7 kV7 dc7 pm7 cd7 ct7 oc8 kV8 dc8 pm8 cd8 ct8 oc9 kV9 dc9 pm9 cd9 ct9 oc10 kV10 dc10 pm10 cd10 ct10 oc11 kV11 dc11 pm11 cd11 ct11 oc12 kV12 dc12 pm12 cd12 ct12 oc13 kV13 dc13 pm13 cd13 ct13 oc14 kV14 dc14 pm14 cd14 ct14 oc15 kV15 dc15 pm15 cd15 ct15 oc16 kV16 dc16 pm16 cd16 ct16 oc17 kV17 dc17 pm17 cd17 ct17 oc18 kV18 dc18 pm18 cd18 ct18 oc19 kV19 dc19 pm19 cd19 ct19 oc20 kV20 dc20 pm20 cd20 ct20 oc21 kV21 dc21 pm21 cd21 ct21 oc22 kV22 dc22 pm22 cd22 ct22 oc23 kV23 dc23 pm23 cd23 ct23 : Value}
    (a1 : PySem.W.nsIn K mainGlobals "is_whole_number" = some (some (.ref f1))) (l1 : K.lookup f1 = some ⟨oc1, od1, .func (PySem.W.fnOf "is_whole_number" "is_whole_number" (defArgs s_is_whole_number) (defBody s_is_whole_number) (defScope s_is_whole_number) .none kV1 dc1 pm1 an1 cd1 ct1), sl1⟩) (c1 : PySem.W.codeIn K cd1 "is_whole_number" = true) (k1 : PySem.W.keepIn K (.ref f1) = true)
    (a2 : PySem.W.nsIn K mainGlobals "is_same" = some (some (.ref f2))) (l2 : K.lookup f2 = some ⟨oc2, od2, .func (PySem.W.fnOf "is_same" "is_same" (defArgs s_is_same) (defBody s_is_same) (defScope s_is_same) .none kV2 dc2 pm2 an2 cd2 ct2), sl2⟩) (c2 : PySem.W.codeIn K cd2 "is_same" = true) (k2 : PySem.W.keepIn K (.ref f2) = true)
    (a3 : PySem.W.nsIn K mainGlobals "paper_of" = some (some (.ref f3))) (l3 : K.lookup f3 = some ⟨oc3, od3, .func (PySem.W.fnOf "paper_of" "paper_of" (defArgs s_paper_of) (defBody s_paper_of) (defScope s_paper_of) .none kV3 dc3 pm3 an3 cd3 ct3), sl3⟩) (c3 : PySem.W.codeIn K cd3 "paper_of" = true) (k3 : PySem.W.keepIn K (.ref f3) = true)
    (a4 : PySem.W.nsIn K mainGlobals "paper_shows" = some (some (.ref f4))) (l4 : K.lookup f4 = some ⟨oc4, od4, .func (PySem.W.fnOf "paper_shows" "paper_shows" (defArgs s_paper_shows) (defBody s_paper_shows) (defScope s_paper_shows) .none kV4 dc4 pm4 an4 cd4 ct4), sl4⟩) (c4 : PySem.W.codeIn K cd4 "paper_shows" = true) (k4 : PySem.W.keepIn K (.ref f4) = true)
    (a5 : PySem.W.nsIn K mainGlobals "_law_cell_at" = some (some (.ref f5))) (l5 : K.lookup f5 = some ⟨oc5, od5, .func (PySem.W.fnOf "_law_cell_at" "_law_cell_at" (defArgs s_law_cell_at) (defBody s_law_cell_at) (defScope s_law_cell_at) .none kV5 dc5 pm5 an5 cd5 ct5), sl5⟩) (c5 : PySem.W.codeIn K cd5 "_law_cell_at" = true) (k5 : PySem.W.keepIn K (.ref f5) = true)
    (a6 : PySem.W.nsIn K mainGlobals "_law_pool" = some (some (.ref f6))) (l6 : K.lookup f6 = some ⟨oc6, od6, .func (PySem.W.fnOf "_law_pool" "_law_pool" (defArgs s_law_pool) (defBody s_law_pool) (defScope s_law_pool) .none kV6 dc6 pm6 an6 cd6 ct6), sl6⟩) (c6 : PySem.W.codeIn K cd6 "_law_pool" = true) (k6 : PySem.W.keepIn K (.ref f6) = true)
    (a7 : PySem.W.nsIn K mainGlobals "_law_take" = some (some (.ref f7))) (l7 : K.lookup f7 = some ⟨oc7, od7, .func (PySem.W.fnOf "_law_take" "_law_take" (defArgs s_law_take) (defBody s_law_take) (defScope s_law_take) .none kV7 dc7 pm7 an7 cd7 ct7), sl7⟩) (c7 : PySem.W.codeIn K cd7 "_law_take" = true) (k7 : PySem.W.keepIn K (.ref f7) = true)
    (a8 : PySem.W.nsIn K mainGlobals "_law_name" = some (some (.ref f8))) (l8 : K.lookup f8 = some ⟨oc8, od8, .func (PySem.W.fnOf "_law_name" "_law_name" (defArgs s_law_name) (defBody s_law_name) (defScope s_law_name) .none kV8 dc8 pm8 an8 cd8 ct8), sl8⟩) (c8 : PySem.W.codeIn K cd8 "_law_name" = true) (k8 : PySem.W.keepIn K (.ref f8) = true)
    (a9 : PySem.W.nsIn K mainGlobals "_law_leaf" = some (some (.ref f9))) (l9 : K.lookup f9 = some ⟨oc9, od9, .func (PySem.W.fnOf "_law_leaf" "_law_leaf" (defArgs s_law_leaf) (defBody s_law_leaf) (defScope s_law_leaf) .none kV9 dc9 pm9 an9 cd9 ct9), sl9⟩) (c9 : PySem.W.codeIn K cd9 "_law_leaf" = true) (k9 : PySem.W.keepIn K (.ref f9) = true)
    (a10 : PySem.W.nsIn K mainGlobals "_law_recipe" = some (some (.ref f10))) (l10 : K.lookup f10 = some ⟨oc10, od10, .func (PySem.W.fnOf "_law_recipe" "_law_recipe" (defArgs s_law_recipe) (defBody s_law_recipe) (defScope s_law_recipe) .none kV10 dc10 pm10 an10 cd10 ct10), sl10⟩) (c10 : PySem.W.codeIn K cd10 "_law_recipe" = true) (k10 : PySem.W.keepIn K (.ref f10) = true)
    (a11 : PySem.W.nsIn K mainGlobals "_law_house" = some (some (.ref f11))) (l11 : K.lookup f11 = some ⟨oc11, od11, .func (PySem.W.fnOf "_law_house" "_law_house" (defArgs s_law_house) (defBody s_law_house) (defScope s_law_house) .none kV11 dc11 pm11 an11 cd11 ct11), sl11⟩) (c11 : PySem.W.codeIn K cd11 "_law_house" = true) (k11 : PySem.W.keepIn K (.ref f11) = true)
    (a12 : PySem.W.nsIn K mainGlobals "_law_other" = some (some (.ref f12))) (l12 : K.lookup f12 = some ⟨oc12, od12, .func (PySem.W.fnOf "_law_other" "_law_other" (defArgs s_law_other) (defBody s_law_other) (defScope s_law_other) .none kV12 dc12 pm12 an12 cd12 ct12), sl12⟩) (c12 : PySem.W.codeIn K cd12 "_law_other" = true) (k12 : PySem.W.keepIn K (.ref f12) = true)
    (a13 : PySem.W.nsIn K mainGlobals "_law_value" = some (some (.ref f13))) (l13 : K.lookup f13 = some ⟨oc13, od13, .func (PySem.W.fnOf "_law_value" "_law_value" (defArgs s_law_value) (defBody s_law_value) (defScope s_law_value) .none kV13 dc13 pm13 an13 cd13 ct13), sl13⟩) (c13 : PySem.W.codeIn K cd13 "_law_value" = true) (k13 : PySem.W.keepIn K (.ref f13) = true)
    (a14 : PySem.W.nsIn K mainGlobals "_law_look" = some (some (.ref f14))) (l14 : K.lookup f14 = some ⟨oc14, od14, .func (PySem.W.fnOf "_law_look" "_law_look" (defArgs s_law_look) (defBody s_law_look) (defScope s_law_look) .none kV14 dc14 pm14 an14 cd14 ct14), sl14⟩) (c14 : PySem.W.codeIn K cd14 "_law_look" = true) (k14 : PySem.W.keepIn K (.ref f14) = true)
    (a15 : PySem.W.nsIn K mainGlobals "_law_settled" = some (some (.ref f15))) (l15 : K.lookup f15 = some ⟨oc15, od15, .func (PySem.W.fnOf "_law_settled" "_law_settled" (defArgs s_law_settled) (defBody s_law_settled) (defScope s_law_settled) .none kV15 dc15 pm15 an15 cd15 ct15), sl15⟩) (c15 : PySem.W.codeIn K cd15 "_law_settled" = true) (k15 : PySem.W.keepIn K (.ref f15) = true)
    (a16 : PySem.W.nsIn K mainGlobals "_law_fresh" = some (some (.ref f16))) (l16 : K.lookup f16 = some ⟨oc16, od16, .func (PySem.W.fnOf "_law_fresh" "_law_fresh" (defArgs s_law_fresh) (defBody s_law_fresh) (defScope s_law_fresh) .none kV16 dc16 pm16 an16 cd16 ct16), sl16⟩) (c16 : PySem.W.codeIn K cd16 "_law_fresh" = true) (k16 : PySem.W.keepIn K (.ref f16) = true)
    (a17 : PySem.W.nsIn K mainGlobals "_law_wishes" = some (some (.ref f17))) (l17 : K.lookup f17 = some ⟨oc17, od17, .func (PySem.W.fnOf "_law_wishes" "_law_wishes" (defArgs s_law_wishes) (defBody s_law_wishes) (defScope s_law_wishes) .none kV17 dc17 pm17 an17 cd17 ct17), sl17⟩) (c17 : PySem.W.codeIn K cd17 "_law_wishes" = true) (k17 : PySem.W.keepIn K (.ref f17) = true)
    (a18 : PySem.W.nsIn K mainGlobals "_law_case" = some (some (.ref f18))) (l18 : K.lookup f18 = some ⟨oc18, od18, .func (PySem.W.fnOf "_law_case" "_law_case" (defArgs s_law_case) (defBody s_law_case) (defScope s_law_case) .none kV18 dc18 pm18 an18 cd18 ct18), sl18⟩) (c18 : PySem.W.codeIn K cd18 "_law_case" = true) (k18 : PySem.W.keepIn K (.ref f18) = true)
    (a19 : PySem.W.nsIn K mainGlobals "_law_paper" = some (some (.ref f19))) (l19 : K.lookup f19 = some ⟨oc19, od19, .func (PySem.W.fnOf "_law_paper" "_law_paper" (defArgs s_law_paper) (defBody s_law_paper) (defScope s_law_paper) .none kV19 dc19 pm19 an19 cd19 ct19), sl19⟩) (c19 : PySem.W.codeIn K cd19 "_law_paper" = true) (k19 : PySem.W.keepIn K (.ref f19) = true)
    (a20 : PySem.W.nsIn K mainGlobals "_law_others" = some (some (.ref f20))) (l20 : K.lookup f20 = some ⟨oc20, od20, .func (PySem.W.fnOf "_law_others" "_law_others" (defArgs s_law_others) (defBody s_law_others) (defScope s_law_others) .none kV20 dc20 pm20 an20 cd20 ct20), sl20⟩) (c20 : PySem.W.codeIn K cd20 "_law_others" = true) (k20 : PySem.W.keepIn K (.ref f20) = true)
    (a21 : PySem.W.nsIn K mainGlobals "_law_truths" = some (some (.ref f21))) (l21 : K.lookup f21 = some ⟨oc21, od21, .func (PySem.W.fnOf "_law_truths" "_law_truths" (defArgs s_law_truths) (defBody s_law_truths) (defScope s_law_truths) .none kV21 dc21 pm21 an21 cd21 ct21), sl21⟩) (c21 : PySem.W.codeIn K cd21 "_law_truths" = true) (k21 : PySem.W.keepIn K (.ref f21) = true)
    (a22 : PySem.W.nsIn K mainGlobals "_law_alike" = some (some (.ref f22))) (l22 : K.lookup f22 = some ⟨oc22, od22, .func (PySem.W.fnOf "_law_alike" "_law_alike" (defArgs s_law_alike) (defBody s_law_alike) (defScope s_law_alike) .none kV22 dc22 pm22 an22 cd22 ct22), sl22⟩) (c22 : PySem.W.codeIn K cd22 "_law_alike" = true) (k22 : PySem.W.keepIn K (.ref f22) = true)
    (a23 : PySem.W.nsIn K mainGlobals "law" = some (some (.ref f23))) (l23 : K.lookup f23 = some ⟨oc23, od23, .func (PySem.W.fnOf "law" "law" (defArgs s_law) (defBody s_law) (defScope s_law) .none kV23 dc23 pm23 an23 cd23 ct23), sl23⟩) (c23 : PySem.W.codeIn K cd23 "law" = true) (k23 : PySem.W.keepIn K (.ref f23) = true)
    (kd : Kinds K)
    (z_len : PySem.W.nsIn K mainGlobals "len" = some none)
    (z_range : PySem.W.nsIn K mainGlobals "range" = some none)
    (z_str : PySem.W.nsIn K mainGlobals "str" = some none)
    (z_int : PySem.W.nsIn K mainGlobals "int" = some none)
    (z_list : PySem.W.nsIn K mainGlobals "list" = some none)
    (z_tuple : PySem.W.nsIn K mainGlobals "tuple" = some none)
    (z_isinstance : PySem.W.nsIn K mainGlobals "isinstance" = some none)
    (z_bool : PySem.W.nsIn K mainGlobals "bool" = some none)
    (z_dict : PySem.W.nsIn K mainGlobals "dict" = some none)
    (z_sum : PySem.W.nsIn K mainGlobals "sum" = some none)
    (z_all : PySem.W.nsIn K mainGlobals "all" = some none)
    (z_any : PySem.W.nsIn K mainGlobals "any" = some none)
    (z_max : PySem.W.nsIn K mainGlobals "max" = some none)
    (z_min : PySem.W.nsIn K mainGlobals "min" = some none)
    (z_sorted : PySem.W.nsIn K mainGlobals "sorted" = some none)
    (z_set : PySem.W.nsIn K mainGlobals "set" = some none)
    (z_enumerate : PySem.W.nsIn K mainGlobals "enumerate" = some none)
    (z_zip : PySem.W.nsIn K mainGlobals "zip" = some none)
    (z_reversed : PySem.W.nsIn K mainGlobals "reversed" = some none)
    (z_abs : PySem.W.nsIn K mainGlobals "abs" = some none)
    : ∃ fd : FuncData, (∀ (s : Shared) (v : Value), BindsTo s fd ⟨[v], []⟩ [("script", v)]) ∧ ∀ base : Heap, K.In base → base.Ns mainGlobals mg → FnOk l.prog w K mg base CX0 140 fa fd ["script"] (spLaw K) := by
  have e := hfa.symm.trans (PySem.W.mg_of X G a23)
  cases e
  have T_is_whole_number : FnT K mg "is_whole_number" s_is_whole_number ["thing"] _ _ := fnT_mk X G a1 l1 c1 k1 (fun us hl => match us, hl with | [_], _ => rfl)
  have T_is_same : FnT K mg "is_same" s_is_same ["told", "thing"] _ _ := fnT_mk X G a2 l2 c2 k2 (fun us hl => match us, hl with | [_, _], _ => rfl)
  have T_paper_of : FnT K mg "paper_of" s_paper_of ["house", "records", "worths", "name"] _ _ := fnT_mk X G a3 l3 c3 k3 (fun us hl => match us, hl with | [_, _, _, _], _ => rfl)
  have T_paper_shows : FnT K mg "paper_shows" s_paper_shows ["house", "records", "worths", "name", "paper"] _ _ := fnT_mk X G a4 l4 c4 k4 (fun us hl => match us, hl with | [_, _, _, _, _], _ => rfl)
  have T_law_cell_at : FnT K mg "_law_cell_at" s_law_cell_at ["script", "k"] _ _ := fnT_mk X G a5 l5 c5 k5 (fun us hl => match us, hl with | [_, _], _ => rfl)
  have T_law_pool : FnT K mg "_law_pool" s_law_pool ["script", "k"] _ _ := fnT_mk X G a6 l6 c6 k6 (fun us hl => match us, hl with | [_, _], _ => rfl)
  have T_law_take : FnT K mg "_law_take" s_law_take ["pool", "many"] _ _ := fnT_mk X G a7 l7 c7 k7 (fun us hl => match us, hl with | [_, _], _ => rfl)
  have T_law_name : FnT K mg "_law_name" s_law_name ["k"] _ _ := fnT_mk X G a8 l8 c8 k8 (fun us hl => match us, hl with | [_], _ => rfl)
  have T_law_leaf : FnT K mg "_law_leaf" s_law_leaf ["pool", "names"] _ _ := fnT_mk X G a9 l9 c9 k9 (fun us hl => match us, hl with | [_, _], _ => rfl)
  have T_law_recipe : FnT K mg "_law_recipe" s_law_recipe ["pool", "names", "deep"] _ _ := fnT_mk X G a10 l10 c10 k10 (fun us hl => match us, hl with | [_, _, _], _ => rfl)
  have T_law_house : FnT K mg "_law_house" s_law_house ["script", "start", "many"] _ _ := fnT_mk X G a11 l11 c11 k11 (fun us hl => match us, hl with | [_, _, _], _ => rfl)
  have T_law_other : FnT K mg "_law_other" s_law_other ["house", "script", "start", "most"] _ _ := fnT_mk X G a12 l12 c12 k12 (fun us hl => match us, hl with | [_, _, _, _], _ => rfl)
  have T_law_value : FnT K mg "_law_value" s_law_value ["house", "r", "state", "reads"] _ _ := fnT_mk X G a13 l13 c13 k13 (fun us hl => match us, hl with | [_, _, _, _], _ => rfl)
  have T_law_look : FnT K mg "_law_look" s_law_look ["house", "name", "state", "reads"] _ _ := fnT_mk X G a14 l14 c14 k14 (fun us hl => match us, hl with | [_, _, _, _], _ => rfl)
  have T_law_settled : FnT K mg "_law_settled" s_law_settled ["house", "name", "state"] _ _ := fnT_mk X G a15 l15 c15 k15 (fun us hl => match us, hl with | [_, _, _], _ => rfl)
  have T_law_fresh : FnT K mg "_law_fresh" s_law_fresh ["house", "wishes"] _ _ := fnT_mk X G a16 l16 c16 k16 (fun us hl => match us, hl with | [_, _], _ => rfl)
  have T_law_wishes : FnT K mg "_law_wishes" s_law_wishes ["house", "pool"] _ _ := fnT_mk X G a17 l17 c17 k17 (fun us hl => match us, hl with | [_, _], _ => rfl)
  have T_law_case : FnT K mg "_law_case" s_law_case ["script"] _ _ := fnT_mk X G a18 l18 c18 k18 (fun us hl => match us, hl with | [_], _ => rfl)
  have T_law_paper : FnT K mg "_law_paper" s_law_paper ["house", "records", "worths", "name"] _ _ := fnT_mk X G a19 l19 c19 k19 (fun us hl => match us, hl with | [_, _, _, _], _ => rfl)
  have T_law_others : FnT K mg "_law_others" s_law_others ["pool", "due", "other"] _ _ := fnT_mk X G a20 l20 c20 k20 (fun us hl => match us, hl with | [_, _, _], _ => rfl)
  have T_law_truths : FnT K mg "_law_truths" s_law_truths ["r"] _ _ := fnT_mk X G a21 l21 c21 k21 (fun us hl => match us, hl with | [_], _ => rfl)
  have T_law_alike : FnT K mg "_law_alike" s_law_alike ["one", "other"] _ _ := fnT_mk X G a22 l22 c22 k22 (fun us hl => match us, hl with | [_, _], _ => rfl)
  have T_law : FnT K mg "law" s_law ["script"] _ _ := fnT_mk X G a23 l23 c23 k23 (fun us hl => match us, hl with | [_], _ => rfl)
  have T : Blt mg := ⟨PySem.W.mg_none_of X G z_len, PySem.W.mg_none_of X G z_range, PySem.W.mg_none_of X G z_str, PySem.W.mg_none_of X G z_int, PySem.W.mg_none_of X G z_list, PySem.W.mg_none_of X G z_tuple, PySem.W.mg_none_of X G z_isinstance, PySem.W.mg_none_of X G z_bool, PySem.W.mg_none_of X G z_dict, PySem.W.mg_none_of X G z_sum, PySem.W.mg_none_of X G z_all, PySem.W.mg_none_of X G z_any, PySem.W.mg_none_of X G z_max, PySem.W.mg_none_of X G z_min, PySem.W.mg_none_of X G z_sorted, PySem.W.mg_none_of X G z_set, PySem.W.mg_none_of X G z_enumerate, PySem.W.mg_none_of X G z_zip, PySem.W.mg_none_of X G z_reversed, PySem.W.mg_none_of X G z_abs⟩
  refine ⟨PySem.W.fnOf "law" "law" (defArgs s_law) (defBody s_law) (defScope s_law) .none kV23 dc23 pm23 an23 cd23 ct23, fun s v => .of_eq rfl, fun base _ _ => ?_⟩
  have D1 := ok_is_whole_number (P := l.prog) (w := w) (base := base) T_is_whole_number T kd
  have D2 := ok_is_same (P := l.prog) (w := w) (base := base) T_is_same T_is_whole_number D1 T kd 10
  have D3 := ok_paper_of (P := l.prog) (w := w) (base := base) T_paper_of T_is_same D2 T
  have D4 := ok_paper_shows (P := l.prog) (w := w) (base := base) T_paper_shows T_is_same D2 T_paper_of D3 T
  have F1 := ok_law_cell_at (P := l.prog) (w := w) (base := base) T_law_cell_at T
  have F2 := ok_law_pool (P := l.prog) (w := w) (base := base) T_law_pool T_law_cell_at F1 T
  have F3 := ok_law_take (P := l.prog) (w := w) (base := base) T_law_take T
  have F4 := ok_law_name (P := l.prog) (w := w) (base := base) T_law_name T
  have F5 := ok_law_leaf (P := l.prog) (w := w) (base := base) T_law_leaf T_law_take F3 T
  have F6 := ok_law_recipeA (P := l.prog) (w := w) (base := base) T_law_recipe T_law_take F3 T_law_leaf F5 T
  have F7 := ok_law_house (P := l.prog) (w := w) (base := base) T_law_house T_law_take F3 T_law_pool F2 T_law_name F4 T_law_recipe F6 T
  have F8 := ok_law_other (P := l.prog) (w := w) (base := base) T_law_other T_law_take F3 T_law_pool F2 T_law_name F4 T_law_recipe F6 T
  have F9 := ok_law_settled (P := l.prog) (w := w) (base := base) T_law_settled T_law_value T_law_look T 17
  have E1 := ok_law_fresh (P := l.prog) (w := w) (base := base) T_law_fresh T_law_settled F9 T
  have E2 := ok_law_wishes (P := l.prog) (w := w) (base := base) T_law_wishes T_law_take F3 T
  have E3 := ok_law_case (P := l.prog) (w := w) (base := base) T_law_case T_law_take F3 T_law_pool F2 T_law_house F7 T_law_other F8 T_law_fresh E1 T_law_wishes E2 T
  have E4 := ok_law_paper (P := l.prog) (w := w) (base := base) T_law_paper T
  have E5 := ok_law_truths (P := l.prog) (w := w) (base := base) T_law_truths T kd 10
  have E6 := ok_law_others (P := l.prog) (w := w) (base := base) T_law_others T_law_take F3 T_law_truths E5 T
  have E7 := ok_law_alike (P := l.prog) (w := w) (base := base) T_law_alike T kd 12
  exact ok_law T_law T_law_case E3 T_law_fresh E1 T_law_paper E4 T_law_others E6 T_paper_shows D4 T_law_alike E7 T_law_pool F2 T
theorem walk {l : PySem.W.OpenLaw} {q : Program} {loose : List Str} {XP : (Str → Option Value) → Heap → Prop} {YP : World → Heap → Prop} {d : DefRec} {K : Params → PySem.W.Frag} (hn : l.most = some 63) (hdf : d.params.defaults = [])
    (hY : ∀ (w : World) (h : Heap), YP w h → (K w.params).In h)
    (F : ∀ (w : World) (mg : Str → Option Value) (fa : Addr) (h : Heap), (K w.params).In h → h.Ns mainGlobals mg → mg d.name = some (.ref fa) →
      ∃ fd : FuncData, (∀ (s : Shared) (u : Value), BindsTo s fd ⟨[u], []⟩ [("script", u)]) ∧ ∀ base : Heap, (K w.params).In base → base.Ns mainGlobals mg → FnOk l.prog w (K w.params) mg base CX0 140 fa fd ["script"] (spLaw (K w.params))) :
    PySem.W.WalkO q loose XP YP l.row.toRowW d [] (fun f vs => PySem.call f vs) :=
  L2.walk_of (n := 63) (k := 140) (x := "script") (CX := fun _ => CX0) (sp := fun w => spLaw (K w.params)) hn (by decide) hdf ⟨rfl, by decide, by decide⟩ hY F (fun _ _ a ns hl _ hS => ⟨a, ns, rfl, hS, hl, fun _ => rfl⟩) fun _ _ _ _ _ z => z
end K32
open PySem PySem.W PyProof.Rows
set_option maxRecDepth 100000 in
set_option maxHeartbeats 0 in
theorem PySem.Challenge.cw_madeagain_k32_papers_judged_holds : PySem.Challenge.rw_madeagain_k32_papers_judged.Holds := by
  w_on; o_law; k_head; (case hw => w_witness2)
  k_fill
  refine K32.walk (l := PySem.Challenge.rw_madeagain_k32_papers_judged) rfl rfl (fun w h Y => PySem.W.kIn_of Y) ?F
  case F =>
    intro w mg fa h KX G hmg
    refine' K32.all_mk KX G hmg ?a1 ?l1 ?c1 ?k1 ?a2 ?l2 ?c2 ?k2 ?a3 ?l3 ?c3 ?k3 ?a4 ?l4 ?c4 ?k4 ?a5 ?l5 ?c5 ?k5 ?a6 ?l6 ?c6 ?k6 ?a7 ?l7 ?c7 ?k7 ?a8 ?l8 ?c8 ?k8 ?a9 ?l9 ?c9 ?k9 ?a10 ?l10 ?c10 ?k10 ?a11 ?l11 ?c11 ?k11 ?a12 ?l12 ?c12 ?k12 ?a13 ?l13 ?c13 ?k13 ?a14 ?l14 ?c14 ?k14 ?a15 ?l15 ?c15 ?k15 ?a16 ?l16 ?c16 ?k16 ?a17 ?l17 ?c17 ?k17 ?a18 ?l18 ?c18 ?k18 ?a19 ?l19 ?c19 ?k19 ?a20 ?l20 ?c20 ?k20 ?a21 ?l21 ?c21 ?k21 ?a22 ?l22 ?c22 ?k22 ?a23 ?l23 ?c23 ?k23 ?kd ?z_len ?z_range ?z_str ?z_int ?z_list ?z_tuple ?z_isinstance ?z_bool ?z_dict ?z_sum ?z_all ?z_any ?z_max ?z_min ?z_sorted ?z_set ?z_enumerate ?z_zip ?z_reversed ?z_abs
    (case a1 => k_is); (case l1 => k_is); (case c1 => k_is); (case k1 => k_is)
    (case a2 => k_is); (case l2 => k_is); (case c2 => k_is); (case k2 => k_is)
    (case a3 => k_is); (case l3 => k_is); (case c3 => k_is); (case k3 => k_is)
    (case a4 => k_is); (case l4 => k_is); (case c4 => k_is); (case k4 => k_is)
    (case a5 => k_is); (case l5 => k_is); (case c5 => k_is); (case k5 => k_is)
    (case a6 => k_is); (case l6 => k_is); (case c6 => k_is); (case k6 => k_is)
    (case a7 => k_is); (case l7 => k_is); (case c7 => k_is); (case k7 => k_is)
    (case a8 => k_is); (case l8 => k_is); (case c8 => k_is); (case k8 => k_is)
    (case a9 => k_is); (case l9 => k_is); (case c9 => k_is); (case k9 => k_is)
    (case a10 => k_is); (case l10 => k_is); (case c10 => k_is); (case k10 => k_is)
    (case a11 => k_is); (case l11 => k_is); (case c11 => k_is); (case k11 => k_is)
    (case a12 => k_is); (case l12 => k_is); (case c12 => k_is); (case k12 => k_is)
    (case a13 => k_is); (case l13 => k_is); (case c13 => k_is); (case k13 => k_is)
    (case a14 => k_is); (case l14 => k_is); (case c14 => k_is); (case k14 => k_is)
    (case a15 => k_is); (case l15 => k_is); (case c15 => k_is); (case k15 => k_is)
    (case a16 => k_is); (case l16 => k_is); (case c16 => k_is); (case k16 => k_is)
    (case a17 => k_is); (case l17 => k_is); (case c17 => k_is); (case k17 => k_is)
    (case a18 => k_is); (case l18 => k_is); (case c18 => k_is); (case k18 => k_is)
    (case a19 => k_is); (case l19 => k_is); (case c19 => k_is); (case k19 => k_is)
    (case a20 => k_is); (case l20 => k_is); (case c20 => k_is); (case k20 => k_is)
    (case a21 => k_is); (case l21 => k_is); (case c21 => k_is); (case k21 => k_is)
    (case a22 => k_is); (case l22 => k_is); (case c22 => k_is); (case k22 => k_is)
    (case a23 => k_is); (case l23 => k_is); (case c23 => k_is); (case k23 => k_is)
    (case kd => exact RB.kinds_mk (by kernel_rfl))
    (case z_len => k_is); (case z_range => k_is); (case z_str => k_is); (case z_int => k_is); (case z_list => k_is); (case z_tuple => k_is); (case z_isinstance => k_is); (case z_bool => k_is); (case z_dict => k_is); (case z_sum => k_is); (case z_all => k_is); (case z_any => k_is); (case z_max => k_is); (case z_min => k_is); (case z_sorted => k_is); (case z_set => k_is); (case z_enumerate => k_is); (case z_zip => k_is); (case z_reversed => k_is); (case z_abs => k_is)

